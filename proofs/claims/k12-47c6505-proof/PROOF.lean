import PyProof.Rows.All
import HandS.ForExc
import HandS.ForMost
import HandS.IsInst
import HandS.Gcd
import HandS.Wide
import HandS.WideBits
import HandS.TupAny
import HandS.Style
import PyProof.ReprRoads
import KE.KMathGC
import HandS.AnyAll
import HandS.EndTab
import HandS.Deep
import HandS.SortInts
import KE.GoesEnum
import KE.SortData
import HandS.Defaults
import HandS.GenList
import PyProof.GenQ
import KE.KDictZip
import KE.GoesMore
import HandS.RevTup
import PySem.Challenge.RW_bentalike_k12_figures_of_anything
import KE.KNestM
set_option Elab.async false
set_option linter.all false
set_option maxRecDepth 100000
set_option maxHeartbeats 4000000
namespace DL
open PySem PySem.Spec PyProof.Rows L2
/-- what a name may hold: a piece of data, a list that may still change, the script -/
inductive D where
  | d (x : PyData)
  | own (a : Addr)
  | scr (ns : List Int)
/-- the tables of code objects that may grow -/
class Tabs where
  tp : List Addr
instance (priority := low) noTabs : Tabs := ⟨[]⟩
abbrev Sto := Addr → Option (List D)
def put (st : Sto) (a : Addr) (xs : List D) : Sto := fun b => if b = a then some xs else st b
theorem put_same {st : Sto} {a : Addr} {xs : List D} : put st a xs a = some xs := if_pos rfl
theorem put_ne {st : Sto} {a b : Addr} {xs : List D} (h : b ≠ a) : put st a xs b = st b := if_neg h
mutual
inductive Dv (K : PySem.W.Frag) (st : Sto) (H : Hp) : V → PyData → Prop
  | non : Dv K st H .non .none
  | bl (b : Bool) : Dv K st H (.bl b) (.bool b)
  | int (i : Int) : Dv K st H (.int i) (.int i)
  | str (x : Str) : Dv K st H (.str x) (.str x)
  | lst {a : Addr} {xs : List V} {ds : List PyData} (h : H a = some (.lst xs)) (f : st a = none) (r : Dvs K st H xs ds) : Dv K st H (.ref a) (.list ds)
  | tup {a : Addr} {xs : List V} {ds : List PyData} (h : SqT K H a xs) (r : Dvs K st H xs ds) : Dv K st H (.ref a) (.tuple ds)
  | dic {a : Addr} {kvs : List (Key × V)} {ps : List (PyData × PyData)} (h : H a = some (.dK kvs)) (f : st a = none)
      (r : Dvs K st H (kvs.map fun p => kV p.1) (ps.map (·.1))) (q : Dvs K st H (kvs.map (·.2)) (ps.map (·.2))) : Dv K st H (.ref a) (.dict ps)
inductive Dvs (K : PySem.W.Frag) (st : Sto) (H : Hp) : List V → List PyData → Prop
  | nil : Dvs K st H [] []
  | cons {v : V} {vs : List V} {x : PyData} {xs : List PyData} (h : Dv K st H v x) (t : Dvs K st H vs xs) : Dvs K st H (v :: vs) (x :: xs)
end
inductive DvD (K : PySem.W.Frag) (st : Sto) (H : Hp) : V → D → Prop
  | d {v : V} {x : PyData} (h : Dv K st H v x) : DvD K st H v (.d x)
  | own (a : Addr) : DvD K st H (.ref a) (.own a)
  | scr {a : Addr} {ns : List Int} (h : SqL K H a (ns.map V.int)) (f : (∃ o, H a = some (.frz o (.lst (ns.map V.int)))) ∨ SqL K (fun _ => none) a (ns.map V.int)) : DvD K st H (.ref a) (.scr ns)
abbrev DvsD (K : PySem.W.Frag) (st : Sto) (H : Hp) : List V → List D → Prop := Paired (DvD K st H)
/-- the store is held -/
def SR (K : PySem.W.Frag) (st : Sto) (H : Hp) : Prop := ∀ a ds, st a = some ds → ∃ xs, H a = some (.lst xs) ∧ DvsD K st H xs ds
/-- what was laid and not owned stays so -/
structure Fr (st : Sto) (H : Hp) (st' : Sto) (H' : Hp) : Prop where
  ap : ∀ b o, H b = some o → st b = none → (∀ q, o ≠ .tbl q) → H' b = some o ∧ st' b = none
  tb : ∀ P, GxR.TabG H P → st P = none → GxR.TabG H' P ∧ st' P = none
instance {st : Sto} {H : Hp} {st' : Sto} {H' : Hp} : CoeFun (Fr st H st' H') (fun _ => ∀ b o, H b = some o → st b = none → (∀ q, o ≠ .tbl q) → H' b = some o ∧ st' b = none) := ⟨Fr.ap⟩
theorem Fr.of {st : Sto} {H : Hp} {st' : Sto} {H' : Hp} (h : ∀ b o, H b = some o → st b = none → H' b = some o ∧ st' b = none) : Fr st H st' H' :=
  ⟨fun b o e f _ => h b o e f, fun P ⟨ps, e, t⟩ f => ⟨⟨ps, (h P _ e f).1, t⟩, (h P _ e f).2⟩⟩
theorem Fr.refl (st : Sto) (H : Hp) : Fr st H st H := Fr.of fun _ _ h f => ⟨h, f⟩
theorem Fr.trans {st st1 st2 : Sto} {H H1 H2 : Hp} (a : Fr st H st1 H1) (b : Fr st1 H1 st2 H2) : Fr st H st2 H2 where
  ap := fun c o h f n =>
    let ⟨h1, f1⟩ := a c o h f n
    b c o h1 f1 n
  tb := fun P t f =>
    let ⟨t1, f1⟩ := a.tb P t f
    b.tb P t1 f1
theorem SR.free {K : PySem.W.Frag} {st : Sto} {H : Hp} (S : SR K st H) {a : Addr} {o : HO} (h : H a = some o) (n : ∀ xs, o ≠ .lst xs) : st a = none := by
  cases e : st a with
  | none => rfl
  | some ds =>
    obtain ⟨xs, q, _⟩ := S a ds e
    rw [h] at q
    exact absurd (Option.some.inj q) (n xs)
theorem SR.free0 {K : PySem.W.Frag} {st : Sto} {H : Hp} (S : SR K st H) {a : Addr} (h : H a = none) : st a = none := by
  cases e : st a with
  | none => rfl
  | some ds =>
    obtain ⟨xs, q, _⟩ := S a ds e
    rw [h] at q
    cases q
section
variable {K : PySem.W.Frag} {st st' : Sto} {H H' : Hp}
theorem sqT_mono (F : Fr st H st' H') (S : SR K st H) {a : Addr} {xs : List V} (h : SqT K H a xs) : SqT K H' a xs := by
  rcases h with (h | ⟨o, h⟩) | h
  · exact .inl (.inl (F a _ h (S.free h fun xs z => nomatch z) fun _ z => nomatch z).1)
  · exact .inl (.inr ⟨o, (F a _ h (S.free h fun xs z => nomatch z) fun _ z => nomatch z).1⟩)
  · exact .inr h
mutual
theorem Dv.mono (F : Fr st H st' H') (S : SR K st H) : ∀ {v : V} {x : PyData}, Dv K st H v x → Dv K st' H' v x
  | _, _, .non => .non
  | _, _, .bl b => .bl b
  | _, _, .int i => .int i
  | _, _, .str x => .str x
  | _, _, .lst h f r => .lst (F _ _ h f fun _ z => nomatch z).1 (F _ _ h f fun _ z => nomatch z).2 (Dvs.mono F S r)
  | _, _, .tup h r => .tup (sqT_mono F S h) (Dvs.mono F S r)
  | _, _, .dic h f r q => .dic (F _ _ h f fun _ z => nomatch z).1 (F _ _ h f fun _ z => nomatch z).2 (Dvs.mono F S r) (Dvs.mono F S q)
theorem Dvs.mono (F : Fr st H st' H') (S : SR K st H) : ∀ {vs : List V} {xs : List PyData}, Dvs K st H vs xs → Dvs K st' H' vs xs
  | _, _, .nil => .nil
  | _, _, .cons h t => .cons (Dv.mono F S h) (Dvs.mono F S t)
end
theorem DvD.mono (F : Fr st H st' H') (S : SR K st H) {v : V} {x : D} (h : DvD K st H v x) : DvD K st' H' v x := by
  cases h with
  | d h => exact .d (h.mono F S)
  | own a => exact .own a
  | scr h f =>
    rcases f with ⟨o, f⟩ | f
    · have q := (F _ _ f (S.free f fun xs z => nomatch z) fun _ z => nomatch z).1
      exact .scr (.inl (.inr ⟨o, q⟩)) (.inl ⟨o, q⟩)
    · refine .scr ?_ (.inr f)
      rcases f with (f | ⟨o, f⟩) | f
      · cases f
      · cases f
      · exact .inr f
theorem DvsD.mono (F : Fr st H st' H') (S : SR K st H) : ∀ {vs : List V} {xs : List D}, DvsD K st H vs xs → DvsD K st' H' vs xs
  | _, _, .nil => .nil
  | _, _, .cons h t => .cons (h.mono F S) (DvsD.mono F S t)
theorem Dvs.length : ∀ {vs : List V} {xs : List PyData}, Dvs K st H vs xs → vs.length = xs.length
  | _, _, .nil => rfl
  | _, _, .cons _ t => by rw [List.length_cons, List.length_cons, Dvs.length t]
theorem Dvs.of : ∀ {vs : List V} {xs : List PyData}, DvsD K st H vs (xs.map D.d) → Dvs K st H vs xs
  | [], [], _ => .nil
  | _ :: _, _ :: _, .cons (.d h) t => .cons h (Dvs.of t)
theorem Dvs.to : ∀ {vs : List V} {xs : List PyData}, Dvs K st H vs xs → DvsD K st H vs (xs.map D.d)
  | _, _, .nil => .nil
  | _, _, .cons h t => .cons (.d h) (Dvs.to t)
theorem Dvs.append : ∀ {vs ws : List V} {xs ys : List PyData}, Dvs K st H vs xs → Dvs K st H ws ys → Dvs K st H (vs ++ ws) (xs ++ ys)
  | _, _, _, _, .nil, q => q
  | _, _, _, _, .cons h t, q => .cons h (Dvs.append t q)
theorem Dvs.drop : ∀ {vs : List V} {xs : List PyData} (n : Nat), Dvs K st H vs xs → Dvs K st H (vs.drop n) (xs.drop n)
  | _, _, 0, r => r
  | _, _, _ + 1, .nil => .nil
  | _, _, n + 1, .cons _ t => Dvs.drop n t
theorem Dvs.take : ∀ {vs : List V} {xs : List PyData} (n : Nat), Dvs K st H vs xs → Dvs K st H (vs.take n) (xs.take n)
  | _, _, 0, _ => .nil
  | _, _, _ + 1, .nil => .nil
  | _, _, n + 1, .cons h t => .cons h (Dvs.take n t)
theorem Dvs.get : ∀ {vs : List V} {xs : List PyData} {i : Nat} {x : PyData}, Dvs K st H vs xs → xs[i]? = some x → ∃ v, vs[i]? = some v ∧ Dv K st H v x
  | _, _, _, _, .nil, e => by simp at e
  | _, _, 0, _, .cons h _, e => by
    simp at e
    subst e
    exact ⟨_, rfl, h⟩
  | _, _, i + 1, x, .cons _ t, e => by
    obtain ⟨v, h1, h2⟩ := Dvs.get (i := i) (x := x) t (by simpa using e)
    exact ⟨v, by simpa using h1, h2⟩
theorem DvsD.get : ∀ {vs : List V} {xs : List D} {i : Nat} {x : D}, DvsD K st H vs xs → xs[i]? = some x → ∃ v, vs[i]? = some v ∧ DvD K st H v x
  | _, _, _, _, .nil, e => by simp at e
  | _, _, 0, _, .cons h _, e => by
    simp at e
    subst e
    exact ⟨_, rfl, h⟩
  | _, _, i + 1, x, .cons _ t, e => by
    obtain ⟨v, h1, h2⟩ := DvsD.get (i := i) (x := x) t (by simpa using e)
    exact ⟨v, by simpa using h1, h2⟩
theorem DvsD.snoc : ∀ {vs : List V} {xs : List D} {v : V} {x : D}, DvsD K st H vs xs → DvD K st H v x → DvsD K st H (vs ++ [v]) (xs ++ [x])
  | _, _, _, _, .nil, q => .cons q .nil
  | _, _, _, _, .cons h t, q => .cons h (DvsD.snoc t q)
theorem DvsD.set : ∀ {vs : List V} {xs : List D} {v : V} {x : D} (i : Nat), DvsD K st H vs xs → DvD K st H v x → DvsD K st H (vs.set i v) (xs.set i x)
  | _, _, _, _, _, .nil, _ => .nil
  | _, _, _, _, 0, .cons _ t, q => .cons q t
  | _, _, _, _, i + 1, .cons h t, q => .cons h (DvsD.set i t q)
end
/-! ### laying things -/
section
variable {K : PySem.W.Frag} {st : Sto} {H : Hp} {p : Addr} {o : HO}
theorem fr_new (hp : H p = none) : Fr st H st (upd H p o) := Fr.of fun b u h f => ⟨by rw [upd_ne (ne_of_none h hp)]; exact h, f⟩
theorem sr_new (S : SR K st H) (hp : H p = none) : SR K st (upd H p o) := fun a ds e => by
  obtain ⟨xs, h, r⟩ := S a ds e
  exact ⟨xs, by rw [upd_ne (ne_of_none h hp)]; exact h, r.mono (fr_new hp) S⟩
theorem fr_own (hp : H p = none) {ds : List D} : Fr st H (put st p ds) (upd H p o) := Fr.of fun b u h f => by
  have n := ne_of_none h hp
  exact ⟨by rw [upd_ne n]; exact h, by rw [put_ne n]; exact f⟩
theorem sr_own (S : SR K st H) (hp : H p = none) {xs : List V} {ds : List D} (r : DvsD K st H xs ds) : SR K (put st p ds) (upd H p (.lst xs)) := fun a es e => by
  by_cases h : a = p
  · subst h
    rw [put_same] at e
    cases e
    exact ⟨xs, upd_same, r.mono (fr_own hp) S⟩
  · rw [put_ne h] at e
    obtain ⟨ys, q, r2⟩ := S a es e
    exact ⟨ys, by rw [upd_ne h]; exact q, r2.mono (fr_own hp) S⟩
/-- an owned list changes -/
theorem fr_put {ds es : List D} (ho : st p = some ds) : Fr st H (put st p es) (upd H p o) := Fr.of fun b u h f => by
  have n : b ≠ p := fun z => by
    rw [z, ho] at f
    cases f
  exact ⟨by rw [upd_ne n]; exact h, by rw [put_ne n]; exact f⟩
theorem sr_put (S : SR K st H) {ds es : List D} (ho : st p = some ds) {xs : List V} (r : DvsD K st H xs es) : SR K (put st p es) (upd H p (.lst xs)) := fun a gs e => by
  by_cases h : a = p
  · subst h
    rw [put_same] at e
    cases e
    exact ⟨xs, upd_same, r.mono (fr_put ho) S⟩
  · rw [put_ne h] at e
    obtain ⟨ys, q, r2⟩ := S a gs e
    exact ⟨ys, by rw [upd_ne h]; exact q, r2.mono (fr_put ho) S⟩
end
/-! ### the judgements over data -/
abbrev Ed := List (Option D)
abbrev Kd := D → Sto → Prop
abbrev TEd := Ed → Sto → Kd → Prop
abbrev TTd := Ed → Sto → (Bool → Sto → Prop) → Prop
abbrev TAd := Ed → Sto → (List D → Sto → Prop) → Prop
structure EndsD where
  nx : Ed → Sto → Prop
  rt : Kd
  bk : Ed → Sto → Prop := fun _ _ => False
  ct : Ed → Sto → Prop := fun _ _ => False
abbrev TSd := EndsD → Ed → Sto → Prop
structure RE (K : PySem.W.Frag) (st : Sto) (H : Hp) (σ : L2.St) (e : Ed) : Prop where
  len : σ.length = e.length
  at_ : ∀ (i : Nat) (d : D), e[i]? = some (some d) → ∃ v, σ[i]? = some (some v) ∧ DvD K st H v d
theorem RE.mono {K : PySem.W.Frag} {st st' : Sto} {H H' : Hp} {σ : L2.St} {e : Ed} (r : RE K st H σ e) (F : Fr st H st' H') (S : SR K st H) : RE K st' H' σ e :=
  ⟨r.len, fun i d h => let ⟨v, h1, h2⟩ := r.at_ i d h; ⟨v, h1, h2.mono F S⟩⟩
theorem RE.set {K : PySem.W.Frag} {st : Sto} {H : Hp} {σ : L2.St} {e : Ed} (r : RE K st H σ e) {i : Nat} {v : V} {d : D} (h : DvD K st H v d) : RE K st H (σ.set i (some v)) (e.set i (some d)) := by
  refine ⟨by rw [List.length_set, List.length_set]; exact r.len, fun j x hj => ?_⟩
  by_cases hi : i = j
  · subst hi
    rw [List.getElem?_set] at hj ⊢
    rw [if_pos rfl] at hj ⊢
    rw [r.len]
    split at hj
    · rename_i hl
      rw [if_pos hl]
      cases Option.some.inj (Option.some.inj hj)
      exact ⟨v, rfl, h⟩
    · cases hj
  · rw [List.getElem?_set_ne hi] at hj ⊢
    exact r.at_ j x hj
/-- the store that is seen and one that is not -/
def jn (st hid : Sto) : Sto := fun a => match st a with
  | some ds => some ds
  | none => hid a
theorem jn_some {st hid : Sto} {a : Addr} {ds : List D} (h : st a = some ds) : jn st hid a = some ds := by
  unfold jn
  rw [h]
theorem jn_none {st hid : Sto} {a : Addr} (h : st a = none) : jn st hid a = hid a := by
  unfold jn
  rw [h]
theorem jn_put {st hid : Sto} {a : Addr} {ds : List D} : jn (put st a ds) hid = put (jn st hid) a ds := by
  funext b
  by_cases h : b = a
  · subst h
    rw [put_same, jn_some put_same]
  · rw [put_ne h]
    unfold jn
    rw [put_ne h]
theorem jn_free {st hid : Sto} {a : Addr} (h : jn st hid a = none) : st a = none ∧ hid a = none := by
  unfold jn at h
  cases e : st a with
  | some ds =>
    rw [e] at h
    cases h
  | none =>
    rw [e] at h
    exact ⟨rfl, h⟩
def cut (st : Sto) (a : Addr) : Sto := fun b => if b = a then none else st b
theorem cut_same {st : Sto} {a : Addr} : cut st a a = none := if_pos rfl
theorem cut_ne {st : Sto} {a b : Addr} (h : b ≠ a) : cut st a b = st b := if_neg h
structure Sx [Tabs] (K : PySem.W.Frag) (st hid : Sto) (H : Hp) : Prop where
  dj : ∀ a, hid a ≠ none → st a = none
  sr : SR K (jn st hid) H
  tb : ∀ P ∈ Tabs.tp, GxR.TabG H P
theorem tab_off {H : Hp} {p P : Addr} {o : HO} (t : GxR.TabG H P) (h : H p = none ∨ ∃ xs, H p = some (.lst xs)) : GxR.TabG (upd H p o) P := by
  obtain ⟨ps, e, q⟩ := t
  have n : P ≠ p := fun z => by
    rw [← z, e] at h
    rcases h with h | ⟨xs, h⟩ <;> cases h
  exact ⟨ps, by rw [upd_ne n]; exact e, q⟩
variable [Tabs]
abbrev FrX (st hid : Sto) (H : Hp) (st' : Sto) (H' : Hp) : Prop := Fr (jn st hid) H (jn st' hid) H'
section
variable {K : PySem.W.Frag} {st hid : Sto} {H : Hp} {p : Addr} {o : HO}
theorem Sx.new (S : Sx K st hid H) (hp : H p = none) : Sx K st hid (upd H p o) := ⟨S.dj, sr_new S.sr hp, fun P hP => tab_off (S.tb P hP) (.inl hp)⟩
theorem Sx.own (S : Sx K st hid H) (hp : H p = none) {xs : List V} {ds : List D} (r : DvsD K (jn st hid) H xs ds) : Sx K (put st p ds) hid (upd H p (.lst xs)) := by
  refine ⟨fun a h => ?_, by rw [jn_put]; exact sr_own S.sr hp r, fun P hP => tab_off (S.tb P hP) (.inl hp)⟩
  by_cases e : a = p
  · subst e
    exact absurd (jn_free (S.sr.free0 hp)).2 h
  · rw [put_ne e]
    exact S.dj a h
theorem fx_own (hp : H p = none) {ds : List D} : FrX st hid H (put st p ds) (upd H p o) := by
  unfold FrX
  rw [jn_put]
  exact fr_own hp
theorem Sx.store (S : Sx K st hid H) {ds es : List D} (ho : st p = some ds) {xs : List V} (r : DvsD K (jn st hid) H xs es) : Sx K (put st p es) hid (upd H p (.lst xs)) := by
  refine ⟨fun a h => ?_, by rw [jn_put]; exact sr_put S.sr (jn_some ho) r, fun P hP => tab_off (S.tb P hP) (.inr (let ⟨xs, z, _⟩ := S.sr p ds (jn_some ho); ⟨xs, z⟩))⟩
  by_cases e : a = p
  · subst e
    have := S.dj a h
    rw [ho] at this
    cases this
  · rw [put_ne e]
    exact S.dj a h
theorem fx_put {ds es : List D} (ho : st p = some ds) : FrX st hid H (put st p es) (upd H p o) := by
  unfold FrX
  rw [jn_put]
  exact fr_put (jn_some ho)
theorem Sx.frz (S : Sx K st hid H) {ds : List D} (ho : st p = some ds) : Sx K (cut st p) hid H ∧ FrX st hid H (cut st p) H ∧ jn (cut st p) hid p = none := by
  have hp : hid p = none := by
    cases e : hid p with
    | none => rfl
    | some es =>
      have := S.dj p (by rw [e]; exact fun z => nomatch z)
      rw [ho] at this
      cases this
  have hj : ∀ b, b ≠ p → jn (cut st p) hid b = jn st hid b := fun b n => by
    unfold jn
    rw [cut_ne n]
  have hjp : jn (cut st p) hid p = none := (jn_none cut_same).trans hp
  have F : FrX st hid H (cut st p) H := Fr.of fun b o h f => ⟨h, by
    by_cases n : b = p
    · rw [n]
      exact hjp
    · rw [hj b n]
      exact f⟩
  refine ⟨⟨fun a h => ?_, fun a es e => ?_, S.tb⟩, F, hjp⟩
  · by_cases n : a = p
    · rw [n]
      exact cut_same
    · rw [cut_ne n]
      exact S.dj a h
  · have n : a ≠ p := fun z => by
      rw [z, hjp] at e
      cases e
    rw [hj a n] at e
    obtain ⟨xs, q, r⟩ := S.sr a es e
    exact ⟨xs, q, r.mono F S.sr⟩
theorem Sx.go {H' : Hp} (S : Sx K st hid H) (F : FrX st hid H st H') (r : SR K (jn st hid) H') : Sx K st hid H' :=
  ⟨S.dj, r, fun P hP => (F.tb P (S.tb P hP) (let ⟨_, e, _⟩ := S.tb P hP; S.sr.free e fun xs z => nomatch z)).1⟩
theorem Sx.at_ (S : Sx K st hid H) {ds : List D} (ho : st p = some ds) : ∃ xs, H p = some (.lst xs) ∧ DvsD K (jn st hid) H xs ds := S.sr p ds (jn_some ho)
end
/-- what a rule over data promises of a value -/
abbrev Go (K : PySem.W.Frag) (st hid : Sto) (H : Hp) (Qd : Kd) (Q : VK) : Prop := ∀ v H' d st', FrX st hid H st' H' → Sx K st' hid H' → DvD K (jn st' hid) H' v d → Qd d st' → Q v H'
abbrev GoT (K : PySem.W.Frag) (st hid : Sto) (H : Hp) (Qd : Bool → Sto → Prop) (Q : Bool → Hp → Prop) : Prop := ∀ b H' st', FrX st hid H st' H' → Sx K st' hid H' → Qd b st' → Q b H'
abbrev GoA (K : PySem.W.Frag) (st hid : Sto) (H : Hp) (Qd : List D → Sto → Prop) (Q : List V → Hp → Prop) : Prop := ∀ vs H' ds st', FrX st hid H st' H' → Sx K st' hid H' → DvsD K (jn st' hid) H' vs ds → Qd ds st' → Q vs H'
abbrev GoS (K : PySem.W.Frag) (st hid : Sto) (H : Hp) (Qd : Ed → Sto → Prop) (Q : L2.St → Hp → Prop) : Prop := ∀ σ' H' e' st', FrX st hid H st' H' → Sx K st' hid H' → RE K (jn st' hid) H' σ' e' → Qd e' st' → Q σ' H'
def up (K : PySem.W.Frag) (t : TEd) : TE := fun σ H Q => ∃ e st hid Qd, RE K (jn st hid) H σ e ∧ Sx K st hid H ∧ t e st Qd ∧ Go K st hid H Qd Q
def upT (K : PySem.W.Frag) (t : TTd) : TT := fun σ H Q => ∃ e st hid Qd, RE K (jn st hid) H σ e ∧ Sx K st hid H ∧ t e st Qd ∧ GoT K st hid H Qd Q
def upA (K : PySem.W.Frag) (t : TAd) : TA := fun σ H Q => ∃ e st hid Qd, RE K (jn st hid) H σ e ∧ Sx K st hid H ∧ t e st Qd ∧ GoA K st hid H Qd Q
def upS (K : PySem.W.Frag) (t : TSd) : TS := fun E σ H => ∃ e st hid Ed, RE K (jn st hid) H σ e ∧ Sx K st hid H ∧ t Ed e st ∧ GoS K st hid H Ed.nx E.nx ∧ Go K st hid H Ed.rt E.rt ∧ GoS K st hid H Ed.bk E.bk ∧ GoS K st hid H Ed.ct E.ct
section
variable {K : PySem.W.Frag} {st hid st1 : Sto} {H H1 : Hp}
theorem Go.mono {Qd : Kd} {Q : VK} (g : Go K st hid H Qd Q) (F : FrX st hid H st1 H1) : Go K st1 hid H1 Qd Q := fun v H' d st' F' => g v H' d st' (Fr.trans F F')
theorem GoT.mono {Qd : Bool → Sto → Prop} {Q : Bool → Hp → Prop} (g : GoT K st hid H Qd Q) (F : FrX st hid H st1 H1) : GoT K st1 hid H1 Qd Q := fun b H' st' F' => g b H' st' (Fr.trans F F')
theorem GoA.mono {Qd : List D → Sto → Prop} {Q : List V → Hp → Prop} (g : GoA K st hid H Qd Q) (F : FrX st hid H st1 H1) : GoA K st1 hid H1 Qd Q := fun b H' ds st' F' => g b H' ds st' (Fr.trans F F')
theorem GoS.mono {Qd : Ed → Sto → Prop} {Q : L2.St → Hp → Prop} (g : GoS K st hid H Qd Q) (F : FrX st hid H st1 H1) : GoS K st1 hid H1 Qd Q := fun v H' d st' F' => g v H' d st' (Fr.trans F F')
theorem Go.now {Qd : Kd} {Q : VK} (g : Go K st hid H Qd Q) {v : V} {d : D} (S : Sx K st hid H) (h : DvD K (jn st hid) H v d) (q : Qd d st) : Q v H := g v H d st (Fr.refl _ _) S h q
/-- a new thing laid -/
theorem Go.new {Qd : Kd} {Q : VK} (g : Go K st hid H Qd Q) {p : Addr} {o : HO} {d : D} (S : Sx K st hid H) (hp : H p = none) (h : DvD K (jn st hid) (upd H p o) (.ref p) d) (q : Qd d st) : Q (.ref p) (upd H p o) := g _ _ d st (fr_new hp) (S.new hp) h q
end
abbrev PD (X : Cx) (e : Expr) (t : TEd) : Prop := PE X e (up X.K t)
abbrev PDT (X : Cx) (e : Expr) (t : TTd) : Prop := PT X e (upT X.K t)
abbrev PDW (X : Cx) (e : Expr) (t : TTd) : Prop := PW X e (upT X.K t)
abbrev PDA (X : Cx) (es : List Expr) (t : TAd) : Prop := PA X es (upA X.K t)
abbrev PDS (X : Cx) (s : Stmt) (t : TSd) : Prop := PS X s (upS X.K t)
abbrev PDSs (X : Cx) (s : List Stmt) (t : TSd) : Prop := PSs X s (upS X.K t)
theorem PE.imp {X : Cx} {e : Expr} {t t' : TE} (h : PE X e t) (i : ∀ σ H Q, t' σ H Q → t σ H Q) : PE X e t' := ⟨fun pins s σ H Q I w => h.run pins s σ H Q I (i σ H Q w)⟩
theorem PT.imp {X : Cx} {e : Expr} {t t' : TT} (h : PT X e t) (i : ∀ σ H Q, t' σ H Q → t σ H Q) : PT X e t' := ⟨fun pins s σ H Q I w => h.run pins s σ H Q I (i σ H Q w)⟩
theorem PW.imp {X : Cx} {e : Expr} {t t' : TT} (h : PW X e t) (i : ∀ σ H Q, t' σ H Q → t σ H Q) : PW X e t' := ⟨fun wh pins s σ H Q I w => h.run wh pins s σ H Q I (i σ H Q w)⟩
theorem PA.imp {X : Cx} {e : List Expr} {t t' : TA} (h : PA X e t) (i : ∀ σ H Q, t' σ H Q → t σ H Q) : PA X e t' := ⟨fun pos pins s σ H Q I w => h.run pos pins s σ H Q I (i σ H Q w)⟩
theorem PS.imp {X : Cx} {e : Stmt} {t t' : TS} (h : PS X e t) (i : ∀ D σ H, t' D σ H → t D σ H) : PS X e t' := ⟨fun pins s σ H Q I w => h.run pins s σ H Q I (i Q σ H w)⟩
theorem PSs.imp {X : Cx} {e : List Stmt} {t t' : TS} (h : PSs X e t) (i : ∀ D σ H, t' D σ H → t D σ H) : PSs X e t' := ⟨fun pins s σ H Q I w => h.run pins s σ H Q I (i Q σ H w)⟩
/-! ### names, constants -/
section
variable {X : Cx} {pos : Pos} {a b c : Expr} {ta tb tc : TEd}
def dVar (i : Nat) : TEd := fun e st Q => ∃ d, e[i]? = some (some d) ∧ Q d st
theorem pd (i : Nat) {x : Str} (hN : X.N[i]? = some x := by rfl) (hv : Vis X.env.scope x := by first | exact Or.inl rfl | exact Or.inr (Or.inl rfl) | exact Or.inr (Or.inr rfl)) (hd : (x == ("__debug__" : Str)) = false := by decide)
    (hcd : (x == ("__classdict__" : Str)) = false := by decide) : PD X (.Name x pos) (dVar i) :=
  PE.imp (pe_var hN hv hd hcd) fun σ H Q ⟨e, st, hid, Qd, re, S, ⟨d, h, q⟩, k⟩ => by
    obtain ⟨v, h1, h2⟩ := re.at_ i d h
    exact ⟨v, h1, k.now S h2 q⟩
def dC (x : PyData) : TEd := fun _ st Q => Q (.d x) st
theorem pd_int {i : Int} {j : Nat} : PD X (.Constant (.int i) j pos) (dC (.int i)) :=
  PE.imp pe_int fun σ H Q ⟨e, st, hid, Qd, re, S, q, k⟩ => k.now S (.d (.int i)) q
theorem pd_bl {b : Bool} {j : Nat} : PD X (.Constant (.bool b) j pos) (dC (.bool b)) :=
  PE.imp pe_bl fun σ H Q ⟨e, st, hid, Qd, re, S, q, k⟩ => k.now S (.d (.bl b)) q
theorem pd_non {j : Nat} : PD X (.Constant .none j pos) (dC .none) :=
  PE.imp pe_non fun σ H Q ⟨e, st, hid, Qd, re, S, q, k⟩ => k.now S (.d .non) q
theorem pd_str {x : Str} {j : Nat} : PD X (.Constant (.str x) j pos) (dC (.str x)) :=
  PE.imp pe_str fun σ H Q ⟨e, st, hid, Qd, re, S, q, k⟩ => k.now S (.d (.str x)) q
end
end DL
namespace DL
open PySem PySem.Spec PyProof.Rows L2
variable [Tabs]
theorem OpR.imp {X : Cx} {f : Value → Value → Sem Value} {r r' : R2} (h : OpR X f r) (i : ∀ x y H Q, r' x y H Q → r x y H Q) : OpR X f r' := fun pins s σ H x y v u Q I rx ry q => h pins s σ H x y v u Q I rx ry (i x y H Q q)
/-! ### lists of things -/
def pures : List D → Option (List PyData)
  | [] => some []
  | .d x :: r => (pures r).map (x :: ·)
  | _ :: _ => none
theorem pures_eq : ∀ {ds : List D} {xs : List PyData}, pures ds = some xs → ds = xs.map D.d
  | [], _, h => by
    cases h
    rfl
  | .d x :: r, xs, h => by
    unfold pures at h
    cases e : pures r with
    | none =>
      rw [e] at h
      cases h
    | some ys =>
      rw [e] at h
      cases h
      rw [pures_eq e]
      rfl
  | .own _ :: _, _, h => by cases h
  | .scr _ :: _, _, h => by cases h
theorem pures_map : ∀ xs : List PyData, pures (xs.map D.d) = some xs
  | [] => rfl
  | x :: xs => by
    show (pures (xs.map D.d)).map (x :: ·) = _
    rw [pures_map xs]
    rfl
/-- a new list: a value, or one that may still change -/
def mkL (ds : List D) (st : Sto) (Q : Kd) : Prop := (∃ xs, pures ds = some xs ∧ Q (.d (.list xs)) st) ∨ (∀ p, st p = none → Q (.own p) (put st p ds))
theorem mkL_go {K : PySem.W.Frag} {st hid : Sto} {H : Hp} {Qd : Kd} {Q : VK} {ds : List D} {xs : List V} {p : Addr} (h : mkL ds st Qd) (S : Sx K st hid H) (hp : H p = none) (r : DvsD K (jn st hid) H xs ds) (k : Go K st hid H Qd Q) : Q (.ref p) (upd H p (.lst xs)) := by
  have fp := jn_free (S.sr.free0 hp)
  rcases h with ⟨ys, e, q⟩ | q
  · have e2 := pures_eq e
    subst e2
    exact k.new S hp (.d (.lst upd_same (S.sr.free0 hp) ((Dvs.of r).mono (fr_new hp) S.sr))) q
  · exact k _ _ (.own p) _ (fx_own hp) (S.own hp r) (.own p) (q p fp.1)
section
variable {X : Cx} {pos p p2 : Pos} {a b c e : Expr} {es rest : List Expr} {ta tb tc te : TEd} {t : TAd}
/-! ### argument lists, displays -/
def dNil : TAd := fun _ st Q => Q [] st
def dCons (ta : TEd) (tr : TAd) : TAd := fun e st Q => ta e st fun x st1 => tr e st1 fun xs st2 => Q (x :: xs) st2
theorem pda_nil : PDA X [] dNil := PA.imp pa_nil fun σ H Q ⟨e, st, hid, Qd, re, S, h, k⟩ => k [] H [] st (Fr.refl _ _) S .nil h
theorem pda_cons (ha : PD X e te) (hr : PDA X es t) (hs : starEach (e :: es) X.env = (false, eval e X.env) :: starEach es X.env := by rfl) : PDA X (e :: es) (dCons te t) :=
  PA.imp (pa_cons ha hr hs) fun σ H Q ⟨e, st, hid, Qd, re, S, h, k⟩ => ⟨e, st, hid, _, re, S, h, fun v1 H1 d1 st1 F1 S1 r1 h1 => ⟨e, st1, hid, _, re.mono F1 S.sr, S1, h1, fun vs H2 ds st2 F2 S2 r2 h2 =>
    k _ H2 (d1 :: ds) st2 (Fr.trans F1 F2) S2 (.cons (r1.mono F2 S1.sr) r2) h2⟩⟩
def dTup (t : TAd) : TEd := fun e st Q => t e st fun ds st' => match pures ds with
  | some xs => ds.length ≤ sizeLine ∧ Q (.d (.tuple xs)) st'
  | none => False
theorem pd_tup {x1} (h : PDA X es t) : PD X (.Tuple es x1 pos) (dTup t) :=
  PE.imp (pe_tup h) fun σ H Q ⟨e, st, hid, Qd, re, S, h, k⟩ => ⟨e, st, hid, _, re, S, h, fun vs H1 ds st1 F1 S1 r1 h1 => by
    cases q : pures ds with
    | none =>
      rw [q] at h1
      exact h1.elim
    | some xs =>
      rw [q] at h1
      have e2 := pures_eq q
      subst e2
      refine ⟨by rw [Paired.length r1]; exact h1.1, fun p hp => (k.mono F1).new S1 hp (.d (.tup (.inl (.inl upd_same)) ((Dvs.of r1).mono (fr_new hp) S1.sr))) h1.2⟩⟩
def dLst (t : TAd) : TEd := fun e st Q => t e st fun ds st' => ds.length ≤ sizeLine ∧ mkL ds st' Q
theorem pd_lst (h : PDA X es t) : PD X (.List es pos) (dLst t) :=
  PE.imp (pe_lst h) fun σ H Q ⟨e, st, hid, Qd, re, S, h, k⟩ => ⟨e, st, hid, _, re, S, h, fun vs H1 ds st1 F1 S1 r1 h1 =>
    ⟨by rw [Paired.length r1]; exact h1.1, fun p hp => mkL_go h1.2 S1 hp r1 (k.mono F1)⟩⟩
/-- .. as a value -/
def dLstV (t : TAd) : TEd := fun e st Q => t e st fun ds st' => match pures ds with
  | some xs => ds.length ≤ sizeLine ∧ Q (.d (.list xs)) st'
  | none => False
theorem pd_lstV (h : PDA X es t) : PD X (.List es pos) (dLstV t) :=
  PE.imp (pe_lst h) fun σ H Q ⟨e, st, hid, Qd, re, S, h, k⟩ => ⟨e, st, hid, _, re, S, h, fun vs H1 ds st1 F1 S1 r1 h1 => by
    cases q : pures ds with
    | none =>
      rw [q] at h1
      exact h1.elim
    | some xs =>
      rw [q] at h1
      exact ⟨by rw [Paired.length r1]; exact h1.1, fun p hp => mkL_go (.inl ⟨xs, q, h1.2⟩) S1 hp r1 (k.mono F1)⟩⟩
/-! ### operators -/
abbrev R2d := D → D → Sto → Kd → Prop
def upR (K : PySem.W.Frag) (r : R2d) : R2 := fun x y H Q => ∃ dx dy st hid Qd, DvD K (jn st hid) H x dx ∧ DvD K (jn st hid) H y dy ∧ Sx K st hid H ∧ r dx dy st Qd ∧ Go K st hid H Qd Q
def dBin (r : R2d) (ta tb : TEd) : TEd := fun e st Q => ta e st fun x st1 => tb e st1 fun y st2 => r x y st2 Q
theorem bin_imp {K : PySem.W.Frag} {r : R2d} {σ : L2.St} {H : Hp} {Q : VK} (w : up K (dBin r ta tb) σ H Q) : tOp (upR K r) (up K ta) (up K tb) σ H Q := by
  obtain ⟨e, st, hid, Qd, re, S, h, k⟩ := w
  exact ⟨e, st, hid, _, re, S, h, fun v1 H1 d1 st1 F1 S1 r1 h1 => ⟨e, st1, hid, _, re.mono F1 S.sr, S1, h1, fun v2 H2 d2 st2 F2 S2 r2 h2 =>
    ⟨d1, d2, st2, hid, Qd, r1.mono F2 S1.sr, r2, S2, h2, k.mono (Fr.trans F1 F2)⟩⟩⟩
theorem pd_bin {op : Operator} {r : R2d} (ho : OpR X (binaryOp op) (upR X.K r)) (ha : PD X a ta) (hb : PD X b tb) : PD X (.BinOp a op b pos) (dBin r ta tb) := PE.imp (pe_op ho ha hb) fun _ _ _ => bin_imp
theorem pd_cmp {op : CmpOp} {r : R2d} (ho : OpR X (compareOp op) (upR X.K r)) (ha : PD X a ta) (hb : PD X b tb) (hm : behindInMarks op b = false) : PD X (.Compare a [op] [b] pos) (dBin r ta tb) := PE.imp (pe_cmpR ho ha hb hm) fun _ _ _ => bin_imp
/-- a bool as a test -/
def asB (Q : Bool → Sto → Prop) : Kd := fun d st => match d with
  | .d (.bool b) => Q b st
  | _ => False
def dTst (t : TEd) : TTd := fun e st Q => t e st (asB Q)
theorem tst_go {K : PySem.W.Frag} {st hid : Sto} {H : Hp} {Qd : Bool → Sto → Prop} {Q : Bool → Hp → Prop} (k : GoT K st hid H Qd Q) : Go K st hid H (asB Qd) (fun x H' => ∃ c, x = .bl c ∧ Q c H') := fun v H' d st' F S r q => by
  cases r with
  | own a => exact q.elim
  | scr h f => exact q.elim
  | d h =>
    cases h with
    | bl b => exact ⟨b, rfl, k b H' st' F S q⟩
    | non => exact q.elim
    | int i => exact q.elim
    | str i => exact q.elim
    | lst h f r => exact q.elim
    | tup h r => exact q.elim
    | dic h f r z => exact q.elim
theorem pdt_val (h : PD X e te) (he : ∀ whole, isTrue e X.env whole = (do let v ← whole; standAt e.pos; holding [v] (truthy v)) := by intro _; rfl) : PDT X e (dTst te) :=
  PT.imp (pt_val h he) fun σ H Q ⟨e, st, hid, Qd, re, S, h, k⟩ => ⟨e, st, hid, _, re, S, h, tst_go k⟩
theorem pdt_cmp {op : CmpOp} {r : R2d} (ho : OpR X (compareOp op) (upR X.K r)) (ha : PD X a ta) (hb : PD X b tb) (hm : behindInMarks op b = false) : PDT X (.Compare a [op] [b] pos) (dTst (dBin r ta tb)) :=
  PT.imp (pt_cmpR ho ha hb hm) fun σ H Q ⟨e, st, hid, Qd, re, S, h, k⟩ => bin_imp ⟨e, st, hid, _, re, S, h, tst_go k⟩
def dChain (r r' : R2d) (ta tb tc : TEd) : TEd := fun e st Q => ta e st fun x st1 => tb e st1 fun y st2 => r x y st2 (asB fun k st3 => if k = true then tc e st3 fun z st4 => r' y z st4 Q else Q (.d (.bool false)) st3)
theorem chain_imp {K : PySem.W.Frag} {r r' : R2d} {σ : L2.St} {H : Hp} {Q : VK} (w : up K (dChain r r' ta tb tc) σ H Q) : tChain (upR K r) (upR K r') (up K ta) (up K tb) (up K tc) σ H Q := by
  obtain ⟨e, st, hid, Qd, re, S, h, k⟩ := w
  refine ⟨e, st, hid, _, re, S, h, fun v1 H1 d1 st1 F1 S1 r1 h1 => ⟨e, st1, hid, _, re.mono F1 S.sr, S1, h1, fun v2 H2 d2 st2 F2 S2 r2 h2 => ⟨d1, d2, st2, hid, _, r1.mono F2 S1.sr, r2, S2, h2, tst_go fun b H3 st3 F3 S3 h3 => ?_⟩⟩⟩
  have F := Fr.trans F1 (Fr.trans F2 F3)
  cases b with
  | false =>
    rw [if_neg Bool.false_ne_true] at h3 ⊢
    exact (k.mono F).now S3 (.d (.bl false)) h3
  | true =>
    rw [if_pos rfl] at h3 ⊢
    exact ⟨e, st3, hid, _, re.mono F S.sr, S3, h3, fun v4 H4 d4 st4 F4 S4 r4 h4 => ⟨d2, d4, st4, hid, Qd, r2.mono (Fr.trans F3 F4) S2.sr, r4, S4, h4, k.mono (Fr.trans F F4)⟩⟩
theorem pd_chain {op op' : CmpOp} {r r' : R2d} (ho : OpR X (compareOp op) (upR X.K r)) (ho' : OpR X (compareOp op') (upR X.K r')) (ha : PD X a ta) (hb : PD X b tb) (hc : PD X c tc)
    (hm : lastMarks [op, op'] [b, c] = false := by with_unfolding_all rfl) : PD X (.Compare a [op, op'] [b, c] pos) (dChain r r' ta tb tc) := PE.imp (pe_chain ho ho' ha hb hc hm) fun _ _ _ => chain_imp
theorem pdt_chain {op op' : CmpOp} {r r' : R2d} (ho : OpR X (compareOp op) (upR X.K r)) (ho' : OpR X (compareOp op') (upR X.K r')) (ha : PD X a ta) (hb : PD X b tb) (hc : PD X c tc)
    (hm : lastMarks [op, op'] [b, c] = false := by with_unfolding_all rfl) : PDT X (.Compare a [op, op'] [b, c] pos) (dTst (dChain r r' ta tb tc)) :=
  PT.imp (pt_chain ho ho' ha hb hc hm) fun σ H Q ⟨e, st, hid, Qd, re, S, h, k⟩ => chain_imp ⟨e, st, hid, _, re, S, h, tst_go k⟩
/-! ### and, or, not, if -/
variable {tA tB : TTd}
def dAndT (t u : TTd) : TTd := fun e st Q => t e st fun c st1 => if c = true then u e st1 Q else Q false st1
def dOrT (t u : TTd) : TTd := fun e st Q => t e st fun c st1 => if c = true then Q true st1 else u e st1 Q
def dNotT (t : TTd) : TTd := fun e st Q => t e st fun c st1 => Q (!c) st1
theorem pdw_and1 (ha : PDT X a tA) : PDW X (.BoolOp .And [a] pos) tA := pw_and1 ha
theorem pdw_or1 (ha : PDT X a tA) : PDW X (.BoolOp .Or [a] pos) tA := pw_or1 ha
theorem pdw_and (ha : PDT X a tA) (hb : PDW X (.BoolOp .And (b :: rest) pos) tB) : PDW X (.BoolOp .And (a :: b :: rest) pos) (dAndT tA tB) :=
  PW.imp (pw_and ha hb) fun σ H Q ⟨e, st, hid, Qd, re, S, h, k⟩ => ⟨e, st, hid, _, re, S, h, fun c H1 st1 F1 S1 h1 => by
    cases c with
    | true =>
      rw [if_pos rfl] at h1 ⊢
      exact ⟨e, st1, hid, Qd, re.mono F1 S.sr, S1, h1, k.mono F1⟩
    | false =>
      rw [if_neg Bool.false_ne_true] at h1 ⊢
      exact k false H1 st1 F1 S1 h1⟩
theorem pdw_or (ha : PDT X a tA) (hb : PDW X (.BoolOp .Or (b :: rest) pos) tB) : PDW X (.BoolOp .Or (a :: b :: rest) pos) (dOrT tA tB) :=
  PW.imp (pw_or ha hb) fun σ H Q ⟨e, st, hid, Qd, re, S, h, k⟩ => ⟨e, st, hid, _, re, S, h, fun c H1 st1 F1 S1 h1 => by
    cases c with
    | false =>
      rw [if_neg Bool.false_ne_true] at h1 ⊢
      exact ⟨e, st1, hid, Qd, re.mono F1 S.sr, S1, h1, k.mono F1⟩
    | true =>
      rw [if_pos rfl] at h1 ⊢
      exact k true H1 st1 F1 S1 h1⟩
theorem pdt_w (h : PDW X e tA) : PDT X e tA := h.pt
theorem pdt_not (ha : PDT X a tA) : PDT X (.UnaryOp .Not a pos) (dNotT tA) :=
  PT.imp (pt_not ha) fun σ H Q ⟨e, st, hid, Qd, re, S, h, k⟩ => ⟨e, st, hid, _, re, S, h, fun c H1 st1 F1 S1 h1 => k (!c) H1 st1 F1 S1 h1⟩
def dAnd (ta tb : TEd) : TEd := fun e st Q => ta e st (asB fun c st1 => if c = true then tb e st1 Q else Q (.d (.bool false)) st1)
def dOr (ta tb : TEd) : TEd := fun e st Q => ta e st (asB fun c st1 => if c = true then Q (.d (.bool true)) st1 else tb e st1 Q)
def dNot (ta : TEd) : TEd := fun e st Q => ta e st (asB fun c st1 => Q (.d (.bool (!c))) st1)
theorem pd_one {op} (h : PD X a ta) : PD X (.BoolOp op [a] pos) ta := pe_one h
theorem pd_and (ha : PD X a ta) (hb : PD X (.BoolOp .And (b :: rest) pos) tb) : PD X (.BoolOp .And (a :: b :: rest) pos) (dAnd ta tb) :=
  PE.imp (pe_and ha hb) fun σ H Q ⟨e, st, hid, Qd, re, S, h, k⟩ => ⟨e, st, hid, _, re, S, h, tst_go fun c H1 st1 F1 S1 h1 => by
    cases c with
    | true =>
      rw [if_pos rfl] at h1 ⊢
      exact ⟨e, st1, hid, Qd, re.mono F1 S.sr, S1, h1, k.mono F1⟩
    | false =>
      rw [if_neg Bool.false_ne_true] at h1 ⊢
      exact (k.mono F1).now S1 (.d (.bl false)) h1⟩
theorem pd_or (ha : PD X a ta) (hb : PD X (.BoolOp .Or (b :: rest) pos) tb) : PD X (.BoolOp .Or (a :: b :: rest) pos) (dOr ta tb) :=
  PE.imp (pe_or ha hb) fun σ H Q ⟨e, st, hid, Qd, re, S, h, k⟩ => ⟨e, st, hid, _, re, S, h, tst_go fun c H1 st1 F1 S1 h1 => by
    cases c with
    | false =>
      rw [if_neg Bool.false_ne_true] at h1 ⊢
      exact ⟨e, st1, hid, Qd, re.mono F1 S.sr, S1, h1, k.mono F1⟩
    | true =>
      rw [if_pos rfl] at h1 ⊢
      exact (k.mono F1).now S1 (.d (.bl true)) h1⟩
theorem pd_not (ha : PD X a ta) : PD X (.UnaryOp .Not a pos) (dNot ta) :=
  PE.imp (pe_not ha) fun σ H Q ⟨e, st, hid, Qd, re, S, h, k⟩ => ⟨e, st, hid, _, re, S, h, tst_go fun c H1 st1 F1 S1 h1 => (k.mono F1).now S1 (.d (.bl (!c))) h1⟩
def dIf (t : TTd) (ta tb : TEd) : TEd := fun e st Q => t e st fun c st1 => if c = true then ta e st1 Q else tb e st1 Q
theorem pd_if (hc : PDT X c tA) (ha : PD X a ta) (hb : PD X b tb) : PD X (.IfExp c a b pos) (dIf tA ta tb) :=
  PE.imp (pe_ifExp hc ha hb) fun σ H Q ⟨e, st, hid, Qd, re, S, h, k⟩ => ⟨e, st, hid, _, re, S, h, fun c H1 st1 F1 S1 h1 => by
    cases c with
    | true =>
      rw [if_pos rfl] at h1 ⊢
      exact ⟨e, st1, hid, Qd, re.mono F1 S.sr, S1, h1, k.mono F1⟩
    | false =>
      rw [if_neg Bool.false_ne_true] at h1 ⊢
      exact ⟨e, st1, hid, Qd, re.mono F1 S.sr, S1, h1, k.mono F1⟩⟩
/-- - i -/
def dNeg (ta : TEd) : TEd := fun e st Q => ta e st fun d st1 => match d with
  | .d (.int i) => Q (.d (.int (-i))) st1
  | _ => False
theorem pd_neg (ha : PD X a ta) : PD X (.UnaryOp .USub a pos) (dNeg ta) :=
  PE.imp (pe_un un_neg ha) fun σ H Q ⟨e, st, hid, Qd, re, S, h, k⟩ => ⟨e, st, hid, _, re, S, h, fun v H1 d st1 F1 S1 r h1 => by
    cases r with
    | own a => exact h1.elim
    | scr h f => exact h1.elim
    | d h =>
      cases h with
      | int i => exact ⟨i, rfl, (k.mono F1).now S1 (.d (.int (-i))) h1⟩
      | _ => exact h1.elim⟩
/-! ### ints -/
def rI2 (C : Int → Int → Prop) (g : Int → Int → PyData) : R2d := fun x y st Q => match x, y with
  | .d (.int i), .d (.int j) => C i j ∧ Q (.d (g i j)) st
  | _, _ => False
theorem rI2_at {K : PySem.W.Frag} {C : Int → Int → Prop} {g : Int → Int → PyData} {x y : V} {dx dy : D} {st hid : Sto} {H : Hp} {Q : Kd} (hx : DvD K (jn st hid) H x dx) (hy : DvD K (jn st hid) H y dy) (h : rI2 C g dx dy st Q) : ∃ i j, x = .int i ∧ y = .int j ∧ C i j ∧ Q (.d (g i j)) st := by
  cases hx with
  | own a => exact h.elim
  | scr h1 f => exact h.elim
  | d hx =>
    cases hy with
    | own a => cases hx <;> exact h.elim
    | scr h1 f => cases hx <;> exact h.elim
    | d hy =>
      cases hx with
      | int i =>
        cases hy with
        | int j => exact ⟨i, j, rfl, rfl, h.1, h.2⟩
        | _ => exact h.elim
      | _ => cases hy <;> exact h.elim
theorem up_int {f : Value → Value → Sem Value} {C : Int → Int → Prop} {g : Int → Int → Int} (h : OpR X f (rI C fun i j => .int (g i j))) : OpR X f (upR X.K (rI2 C fun i j => .int (g i j))) := OpR.imp h fun x y H Q ⟨dx, dy, st, hid, Qd, hx, hy, S, w, k⟩ => by
  obtain ⟨i, j, rfl, rfl, hc, q⟩ := rI2_at hx hy w
  exact ⟨i, j, rfl, rfl, hc, k.now S (.d (.int _)) q⟩
theorem up_int0 {f : Value → Value → Sem Value} {g : Int → Int → Int} (h : OpR X f (rI0 fun i j => .int (g i j))) : OpR X f (upR X.K (rI2 (fun _ _ => True) fun i j => .int (g i j))) := OpR.imp h fun x y H Q ⟨dx, dy, st, hid, Qd, hx, hy, S, w, k⟩ => by
  obtain ⟨i, j, rfl, rfl, hc, q⟩ := rI2_at hx hy w
  exact ⟨i, j, rfl, rfl, k.now S (.d (.int _)) q⟩
theorem up_cmp0 {f : Value → Value → Sem Value} {g : Int → Int → Bool} (h : OpR X f (rI0 fun i j => .bl (g i j))) : OpR X f (upR X.K (rI2 (fun _ _ => True) fun i j => .bool (g i j))) := OpR.imp h fun x y H Q ⟨dx, dy, st, hid, Qd, hx, hy, S, w, k⟩ => by
  obtain ⟨i, j, rfl, rfl, hc, q⟩ := rI2_at hx hy w
  exact ⟨i, j, rfl, rfl, k.now S (.d (.bl _)) q⟩
def rSubD : R2d := rI2 (fun _ _ => True) fun i j => .int (i - j)
def rMulD : R2d := rI2 CMulW fun i j => .int (i * j)
def rDivD : R2d := rI2 CDivW fun i j => .int (i / j)
def rModD : R2d := rI2 (fun _ j => 0 < j) fun i j => .int (i % j)
def rPowD : R2d := rI2 CPow fun i j => .int (i ^ j.toNat)
def rLtD : R2d := rI2 (fun _ _ => True) fun i j => .bool (decide (i < j))
def rLeD : R2d := rI2 (fun _ _ => True) fun i j => .bool (decide (i ≤ j))
def rGtD : R2d := rI2 (fun _ _ => True) fun i j => .bool (decide (j < i))
def rGeD : R2d := rI2 (fun _ _ => True) fun i j => .bool (decide (j ≤ i))
theorem o_sub : OpR X (binaryOp .Sub) (upR X.K rSubD) := up_int0 op_sub
theorem o_mul : OpR X (binaryOp .Mult) (upR X.K rMulD) := up_int op_mulW
theorem o_div : OpR X (binaryOp .FloorDiv) (upR X.K rDivD) := up_int op_fdivW
theorem o_mod : OpR X (binaryOp .Mod) (upR X.K rModD) := up_int op_mod
theorem o_pow : OpR X (binaryOp .Pow) (upR X.K rPowD) := up_int op_pow
theorem o_lt : OpR X (compareOp .Lt) (upR X.K rLtD) := up_cmp0 op_lt
theorem o_le : OpR X (compareOp .LtE) (upR X.K rLeD) := up_cmp0 op_le
theorem o_gt : OpR X (compareOp .Gt) (upR X.K rGtD) := up_cmp0 op_gt
theorem o_ge : OpR X (compareOp .GtE) (upR X.K rGeD) := up_cmp0 op_ge
end
end DL
namespace DL
open PySem PySem.Spec PyProof.Rows L2
variable [Tabs]
/-! ### lists, read -/
def lstOf (d : D) (st : Sto) : Option (List D) := match d with
  | .d (.list xs) => some (xs.map D.d)
  | .own a => st a
  | .scr ns => some (ns.map fun n => .d (.int n))
  | _ => none
/-- .. such as a list display, an append may have made -/
def wlOf (d : D) (st : Sto) : Option (List D) := match d with
  | .d (.list xs) => some (xs.map D.d)
  | .own a => st a
  | _ => none
section
variable {K : PySem.W.Frag} {st hid : Sto} {H : Hp}
theorem ints_to : ∀ ns : List Int, DvsD K st H (ns.map V.int) (ns.map fun n => .d (.int n))
  | [] => .nil
  | n :: ns => .cons (.d (.int n)) (ints_to ns)
theorem wlOf_at {x : V} {d : D} {ds : List D} (r : DvD K (jn st hid) H x d) (S : Sx K st hid H) (e : wlOf d st = some ds) : ∃ a xs, x = .ref a ∧ H a = some (.lst xs) ∧ DvsD K (jn st hid) H xs ds := by
  cases r with
  | own a =>
    obtain ⟨xs, h1, h2⟩ := S.at_ (show st a = some ds from e)
    exact ⟨a, xs, rfl, h1, h2⟩
  | scr h f => cases e
  | d h =>
    cases h with
    | lst h f r =>
      cases (show some (_ : List D) = some ds from e)
      exact ⟨_, _, rfl, h, Dvs.to r⟩
    | _ => cases e
theorem lstOf_at {x : V} {d : D} {ds : List D} (r : DvD K (jn st hid) H x d) (S : Sx K st hid H) (e : lstOf d st = some ds) : ∃ a xs, x = .ref a ∧ SqL K H a xs ∧ DvsD K (jn st hid) H xs ds := by
  cases r with
  | own a =>
    obtain ⟨xs, h1, h2⟩ := S.at_ (show st a = some ds from e)
    exact ⟨a, xs, rfl, .inl (.inl h1), h2⟩
  | scr h f =>
    cases (show some (_ : List D) = some ds from e)
    exact ⟨_, _, rfl, h, ints_to _⟩
  | d h =>
    cases h with
    | lst h f r =>
      cases (show some (_ : List D) = some ds from e)
      exact ⟨_, _, rfl, .inl (.inl h), Dvs.to r⟩
    | _ => cases e
theorem tup_at {x : V} {xs : List PyData} (r : DvD K (jn st hid) H x (.d (.tuple xs))) : ∃ a vs, x = .ref a ∧ SqT K H a vs ∧ Dvs K (jn st hid) H vs xs := by
  cases r with
  | d h =>
    cases h with
    | tup h r => exact ⟨_, _, rfl, h, r⟩
theorem int_at {x : V} {i : Int} (r : DvD K (jn st hid) H x (.d (.int i))) : x = .int i := by
  cases r with
  | d h =>
    cases h with
    | int i => rfl
theorem str_at {x : V} {i : Str} (r : DvD K (jn st hid) H x (.d (.str i))) : x = .str i := by
  cases r with
  | d h =>
    cases h with
    | str i => rfl
theorem bl_at {x : V} {i : Bool} (r : DvD K (jn st hid) H x (.d (.bool i))) : x = .bl i := by
  cases r with
  | d h =>
    cases h with
    | bl i => rfl
theorem DvsD.append : ∀ {vs ws : List V} {xs ys : List D}, DvsD K st H vs xs → DvsD K st H ws ys → DvsD K st H (vs ++ ws) (xs ++ ys)
  | _, _, _, _, .nil, q => q
  | _, _, _, _, .cons h t, q => .cons h (DvsD.append t q)
theorem DvsD.drop : ∀ {vs : List V} {xs : List D} (n : Nat), DvsD K st H vs xs → DvsD K st H (vs.drop n) (xs.drop n)
  | _, _, 0, r => r
  | _, _, _ + 1, .nil => .nil
  | _, _, n + 1, .cons _ t => DvsD.drop n t
theorem DvsD.take : ∀ {vs : List V} {xs : List D} (n : Nat), DvsD K st H vs xs → DvsD K st H (vs.take n) (xs.take n)
  | _, _, 0, _ => .nil
  | _, _, _ + 1, .nil => .nil
  | _, _, n + 1, .cons h t => .cons h (DvsD.take n t)
theorem DvsD.reverse : ∀ {vs : List V} {xs : List D}, DvsD K st H vs xs → DvsD K st H vs.reverse xs.reverse
  | _, _, .nil => .nil
  | _, _, .cons h t => by
    rw [List.reverse_cons, List.reverse_cons]
    exact DvsD.snoc (DvsD.reverse t) h
theorem atI_pair {α β : Type} {xs : List α} {ys : List β} {i : Int} {y : β} (hl : xs.length = ys.length) (h : atI ys i = some y) : ∃ j : Nat, ys[j]? = some y ∧ ∀ x, xs[j]? = some x → atI xs i = some x := by
  unfold atI at h ⊢
  rw [hl]
  cases e : ixN ys.length i with
  | none =>
    rw [e] at h
    cases h
  | some j =>
    rw [e] at h
    exact ⟨j, h, fun x q => q⟩
theorem DvsD.at_ {vs : List V} {xs : List D} {i : Int} {d : D} (r : DvsD K st H vs xs) (h : atI xs i = some d) : ∃ v, atI vs i = some v ∧ DvD K st H v d := by
  obtain ⟨j, h1, h2⟩ := atI_pair (Paired.length r) h
  obtain ⟨v, h3, h4⟩ := r.get h1
  exact ⟨v, h2 v h3, h4⟩
theorem Dvs.at_ {vs : List V} {xs : List PyData} {i : Int} {d : PyData} (r : Dvs K st H vs xs) (h : atI xs i = some d) : ∃ v, atI vs i = some v ∧ Dv K st H v d := by
  obtain ⟨j, h1, h2⟩ := atI_pair r.length h
  obtain ⟨v, h3, h4⟩ := r.get h1
  exact ⟨v, h2 v h3, h4⟩
/-! data without dicts, as the library's == reads it -/
mutual
theorem Dv.dp : ∀ {v : V} {x : PyData}, Dv K st H v x → x.hasDict = false → Dp K H v x
  | _, _, .non, _ => .non
  | _, _, .bl b, _ => .bl b
  | _, _, .int i, _ => .int i
  | _, _, .str x, _ => .str x
  | _, _, .lst h f r, n => .lst (.inl (.inl h)) (Dvs.dp r (by simpa [PyData.hasDict] using n))
  | _, _, .tup h r, n => .tup h (Dvs.dp r (by simpa [PyData.hasDict] using n))
  | _, _, .dic h f r q, n => by simp [PyData.hasDict] at n
theorem Dvs.dp : ∀ {vs : List V} {xs : List PyData}, Dvs K st H vs xs → PyData.hasDictAll xs = false → DpAll K H vs xs
  | _, _, .nil, _ => .nil
  | _, _, .cons h t, n => by
    have n2 := (Bool.or_eq_false_iff.mp (show (PyData.hasDict _ || PyData.hasDictAll _) = false by simpa [PyData.hasDictAll] using n))
    exact .cons (Dv.dp h n2.1) (Dvs.dp t n2.2)
end
end
section
variable {X : Cx} {pos p p2 : Pos} {a b c e : Expr} {es rest : List Expr} {ta tb tc te : TEd} {t : TAd}
/-! ### + -/
def rAddD : R2d := fun x y st Q => match x, y with
  | .d (.int i), .d (.int j) => Q (.d (.int (i + j))) st
  | .d (.str i), .d (.str j) => i.length + j.length ≤ sizeLine ∧ Q (.d (.str (i ++ j))) st
  | .d (.tuple xs), .d (.tuple ys) => xs.length + ys.length ≤ sizeLine ∧ Q (.d (.tuple (xs ++ ys))) st
  | .d (.list xs), .d (.list ys) => xs.length + ys.length ≤ sizeLine ∧ Q (.d (.list (xs ++ ys))) st
  | x, y => ∃ xs ys, wlOf x st = some xs ∧ wlOf y st = some ys ∧ xs.length + ys.length ≤ sizeLine ∧ mkL (xs ++ ys) st Q
theorem o_add : OpR X (binaryOp .Add) (upR X.K rAddD) := fun pins s σ H x y v u Q I rx ry ⟨dx, dy, st, hid, Qd, hx, hy, S, w, k⟩ => by
  unfold rAddD at w
  split at w
  · cases int_at hx
    cases int_at hy
    exact op_add pins s σ H _ _ v u Q I rx ry ⟨_, _, rfl, rfl, k.now S (.d (.int _)) w⟩
  · cases str_at hx
    cases str_at hy
    exact op_add_str pins s σ H _ _ v u Q I rx ry ⟨_, _, rfl, rfl, w.1, k.now S (.d (.str _)) w.2⟩
  · rename_i xs ys
    obtain ⟨a, vs, rfl, h1, r1⟩ := tup_at hx
    obtain ⟨b, ws, rfl, h2, r2⟩ := tup_at hy
    have l1 := r1.length
    have l2 := r2.length
    refine op_catA pins s σ H _ _ v u Q I rx ry ⟨a, b, vs, ws, rfl, rfl, h1, h2, by omega, fun z => ?_, fun _ z => ?_, fun _ _ p hp => ?_⟩
    · subst z
      have e : xs = [] := List.length_eq_zero_iff.mp l1.symm
      subst e
      exact k.now S hy w.2
    · subst z
      have e : ys = [] := List.length_eq_zero_iff.mp l2.symm
      subst e
      rw [List.append_nil] at w
      exact k.now S hx w.2
    · exact k.new S hp (.d (.tup (.inl (.inl upd_same)) ((r1.append r2).mono (fr_new hp) S.sr))) w.2
  · rename_i xs ys
    obtain ⟨a, vs, rfl, h1, r1⟩ := wlOf_at hx S rfl
    obtain ⟨b, ws, rfl, h2, r2⟩ := wlOf_at hy S rfl
    have l1 := Paired.length r1
    have l2 := Paired.length r2
    rw [List.length_map] at l1 l2
    refine op_cat pins s σ H _ _ v u Q I rx ry ⟨a, b, vs, ws, rfl, rfl, h1, h2, by omega, fun p hp => mkL_go (.inl ⟨xs ++ ys, ?_, w.2⟩) S hp (r1.append r2) k⟩
    rw [← List.map_append]
    exact pures_map _
  · obtain ⟨xs, ys, e1, e2, hz, q⟩ := w
    obtain ⟨a, vs, rfl, h1, r1⟩ := wlOf_at hx S e1
    obtain ⟨b, ws, rfl, h2, r2⟩ := wlOf_at hy S e2
    have l1 := Paired.length r1
    have l2 := Paired.length r2
    exact op_cat pins s σ H _ _ v u Q I rx ry ⟨a, b, vs, ws, rfl, rfl, h1, h2, by omega, fun p hp => mkL_go q S hp (r1.append r2) k⟩
/-! ### == and != -/
def rEqV : R2d := fun x y st Q => match x, y with
  | .d (.int i), .d (.int j) => Q (.d (.bool (decide (i = j)))) st
  | .d (.str i), .d (.str j) => Q (.d (.bool (decide (i = j)))) st
  | .d i, .d j => SeqAt.shaped i = true ∧ SeqAt.shaped j = true ∧ Q (.d (.bool (PyData.eqv i j))) st
  | _, _ => False
def rNeV : R2d := fun x y st Q => match x, y with
  | .d (.int i), .d (.int j) => Q (.d (.bool (!decide (i = j)))) st
  | .d (.str i), .d (.str j) => Q (.d (.bool (!decide (i = j)))) st
  | .d i, .d j => SeqAt.shaped i = true ∧ SeqAt.shaped j = true ∧ Q (.d (.bool (!PyData.eqv i j))) st
  | _, _ => False
theorem noDict {d : PyData} (h : SeqAt.shaped d = true) : d.hasDict = false := PyData.hasDict_of_canLay d (SeqAt.canLay_of_shaped h)
theorem o_eq (hu : X.A.units + 64 < cLine) : OpR X (compareOp .Eq) (upR X.K rEqV) := fun pins s σ H x y v u Q I rx ry ⟨dx, dy, st, hid, Qd, hx, hy, S, w, k⟩ => by
  unfold rEqV at w
  split at w
  · cases int_at hx
    cases int_at hy
    refine op_eq pins s σ H _ _ v u Q I rx ry ⟨rfl, ?_⟩
    rw [dec_int, show ∀ i j : Int, (i == j) = decide (i = j) from fun i j => by rw [Bool.eq_iff_iff]; simp]
    exact k.now S (.d (.bl _)) w
  · cases str_at hx
    cases str_at hy
    refine op_eq pins s σ H _ _ v u Q I rx ry ⟨rfl, ?_⟩
    rw [dec_str, show ∀ i j : Str, (i == j) = decide (i = j) from fun i j => by rw [Bool.eq_iff_iff]; simp]
    exact k.now S (.d (.bl _)) w
  · cases hx with
    | d hx =>
      cases hy with
      | d hy => exact op_eqD hu pins s σ H _ _ v u Q I rx ry ⟨_, _, hx.dp (noDict w.1), hy.dp (noDict w.2.1), w.1, w.2.1, k.now S (.d (.bl _)) w.2.2⟩
  · exact w.elim
theorem o_ne (hu : X.A.units + 64 < cLine) : OpR X (compareOp .NotEq) (upR X.K rNeV) := fun pins s σ H x y v u Q I rx ry ⟨dx, dy, st, hid, Qd, hx, hy, S, w, k⟩ => by
  unfold rNeV at w
  split at w
  · cases int_at hx
    cases int_at hy
    refine op_ne pins s σ H _ _ v u Q I rx ry ⟨rfl, ?_⟩
    rw [dec_int, show ∀ i j : Int, (i == j) = decide (i = j) from fun i j => by rw [Bool.eq_iff_iff]; simp]
    exact k.now S (.d (.bl _)) w
  · cases str_at hx
    cases str_at hy
    refine op_ne pins s σ H _ _ v u Q I rx ry ⟨rfl, ?_⟩
    rw [dec_str, show ∀ i j : Str, (i == j) = decide (i = j) from fun i j => by rw [Bool.eq_iff_iff]; simp]
    exact k.now S (.d (.bl _)) w
  · cases hx with
    | d hx =>
      cases hy with
      | d hy => exact op_neD hu pins s σ H _ _ v u Q I rx ry ⟨_, _, hx.dp (noDict w.1), hy.dp (noDict w.2.1), w.1, w.2.1, k.now S (.d (.bl _)) w.2.2⟩
  · exact w.elim
/-! ### x[i], x[lo:hi], x[::-1] -/
def rIxD : R2d := fun x y st Q => match y with
  | .d (.int i) => match x with
    | .d (.tuple xs) => ∃ v, atI xs i = some v ∧ Q (.d v) st
    | .d (.str z) => z.length ≤ sizeLine ∧ ∃ n, atI z.cps.toList i = some n ∧ Q (.d (.str ⟨#[n]⟩)) st
    | x => ∃ ds v, lstOf x st = some ds ∧ atI ds i = some v ∧ Q v st
  | _ => False
theorem ix_imp : IxR X (upR X.K rIxD) := by
  intro value slice pins s σ H x y v u Q I rx ry ⟨dx, dy, st, hid, Qd, hx, hy, S, w, k⟩ hs
  unfold rIxD at w
  split at w
  · rename_i i
    cases int_at hy
    split at w
    · obtain ⟨d, e, q⟩ := w
      obtain ⟨a, vs, rfl, h1, r1⟩ := tup_at hx
      obtain ⟨z, h2, r2⟩ := r1.at_ e
      exact ix_tup value slice pins s σ H _ _ v u Q I rx ry ⟨a, vs, i, z, rfl, rfl, h1, h2, k.now S (.d r2) q⟩ hs
    · obtain ⟨hz, n, e, q⟩ := w
      cases str_at hx
      exact ix_str value slice pins s σ H _ _ v u Q I rx ry ⟨_, i, n, rfl, rfl, hz, e, k.now S (.d (.str _)) q⟩ hs
    · obtain ⟨ds, d, e1, e, q⟩ := w
      obtain ⟨a, vs, rfl, h1, r1⟩ := lstOf_at hx S e1
      obtain ⟨z, h2, r2⟩ := r1.at_ e
      exact ix_list value slice pins s σ H _ _ v u Q I rx ry ⟨a, vs, i, z, rfl, rfl, h1, h2, k.now S r2 q⟩ hs
  · exact w.elim
theorem pd_ix (ha : PD X a ta) (hb : PD X b tb) (hs : PlainIx b) : PD X (.Subscript a b pos) (dBin rIxD ta tb) := PE.imp (pe_ix ix_imp ha hb hs) fun _ _ _ => bin_imp
abbrev TOd := Ed → Sto → (Option Int → Sto → Prop) → Prop
abbrev GoO (K : PySem.W.Frag) (st hid : Sto) (H : Hp) (Qd : Option Int → Sto → Prop) (Q : Option Int → Hp → Prop) : Prop := ∀ b H' st', FrX st hid H st' H' → Sx K st' hid H' → Qd b st' → Q b H'
def upO (K : PySem.W.Frag) (t : TOd) : TO := fun σ H Q => ∃ e st hid Qd, RE K (jn st hid) H σ e ∧ Sx K st hid H ∧ t e st Qd ∧ GoO K st hid H Qd Q
abbrev PDO (X : Cx) (e : Option Expr) (t : TOd) : Prop := PO X e (upO X.K t)
theorem PO.imp {X : Cx} {e : Option Expr} {t t' : TO} (h : PO X e t) (i : ∀ σ H Q, t' σ H Q → t σ H Q) : PO X e t' := ⟨fun pins s σ H Q I w => h.run pins s σ H Q I (i σ H Q w)⟩
def dNoP : TOd := fun _ st Q => Q none st
def dPart (t : TEd) : TOd := fun e st Q => t e st fun d st1 => match d with
  | .d (.int i) => Q (some i) st1
  | _ => False
theorem pdo_none : PDO X none dNoP := PO.imp po_none fun σ H Q ⟨e, st, hid, Qd, re, S, h, k⟩ => k none H st (Fr.refl _ _) S h
theorem pdo_some (h : PD X e te) : PDO X (some e) (dPart te) := PO.imp (po_some h) fun σ H Q ⟨e, st, hid, Qd, re, S, h, k⟩ => ⟨e, st, hid, _, re, S, h, fun v H1 d st1 F1 S1 r q => by
  cases r with
  | own a => exact q.elim
  | scr h f => exact q.elim
  | d h =>
    cases h with
    | int i => exact ⟨i, rfl, k (some i) H1 st1 F1 S1 q⟩
    | _ => exact q.elim⟩
/-- the items of xs[lo:hi] -/
def cutP {α : Type} (xs : List α) (lo hi : Option Int) : List α := (xs.drop (HT.sIx xs.length 0 lo)).take (HT.sIx xs.length xs.length hi - HT.sIx xs.length 0 lo)
def rSlD (x : D) (lo hi : Option Int) (st : Sto) (Q : Kd) : Prop := match x with
  | .d (.tuple xs) => Q (.d (.tuple (cutP xs lo hi))) st
  | .d (.list xs) => Q (.d (.list (cutP xs lo hi))) st
  | .scr ns => Q (.d (.list ((cutP ns lo hi).map .int))) st
  | x => ∃ ds, lstOf x st = some ds ∧ mkL (cutP ds lo hi) st Q
theorem cutP_map {α β : Type} (f : α → β) (xs : List α) (lo hi : Option Int) : cutP (xs.map f) lo hi = (cutP xs lo hi).map f := by
  unfold cutP
  rw [List.length_map, List.map_take, List.map_drop]
def dSl (te : TEd) (tl th : TOd) : TEd := fun e st Q => te e st fun x st1 => tl e st1 fun l st2 => th e st2 fun u st3 => rSlD x l u st3 Q
theorem sl_imp : SlR X (fun x lo hi H Q => ∃ dx st hid Qd, DvD X.K (jn st hid) H x dx ∧ Sx X.K st hid H ∧ rSlD dx lo hi st Qd ∧ Go X.K st hid H Qd Q) := by
  intro pins s σ H x v vl vu lo hi sl Q I rx hs pl pu ⟨dx, st, hid, Qd, hx, S, w, k⟩
  unfold rSlD at w
  split at w
  · rename_i xs
    obtain ⟨a, vs, rfl, h1, r1⟩ := tup_at hx
    have l1 := r1.length
    refine sl_tupA pins s σ H _ v vl vu lo hi sl Q I rx hs pl pu ⟨a, vs, rfl, h1, fun z => ?_, fun _ p hp => ?_⟩
    · have e : cutP xs lo hi = xs := by
        unfold cutP
        rw [← l1, z.1, z.2, List.drop_zero, Nat.sub_zero, List.take_of_length_le (Nat.le_of_eq l1.symm)]
      rw [e] at w
      exact k.now S hx w
    · refine k.new S hp (.d (.tup (.inl (.inl upd_same)) ?_)) w
      unfold cutP cutV
      rw [l1]
      exact ((r1.drop _).take _).mono (fr_new hp) S.sr
  · rename_i xs
    obtain ⟨a, vs, rfl, h1, r1⟩ := lstOf_at hx S rfl
    have l1 := Paired.length r1
    refine sl_list pins s σ H _ v vl vu lo hi sl Q I rx hs pl pu ⟨a, vs, rfl, h1, fun p hp => mkL_go (ds := cutP (xs.map D.d) lo hi) (.inl ⟨cutP xs lo hi, by rw [cutP_map]; exact pures_map _, w⟩) S hp ?_ k⟩
    unfold cutP cutV
    rw [l1]
    exact (r1.drop _).take _
  · rename_i ns
    obtain ⟨a, vs, rfl, h1, r1⟩ := lstOf_at hx S rfl
    have l1 := Paired.length r1
    refine sl_list pins s σ H _ v vl vu lo hi sl Q I rx hs pl pu ⟨a, vs, rfl, h1, fun p hp => mkL_go (ds := cutP (ns.map fun n => .d (.int n)) lo hi) (.inl ⟨_, ?_, w⟩) S hp ?_ k⟩
    · rw [cutP_map, show (List.map (fun n => D.d (PyData.int n)) (cutP ns lo hi)) = ((cutP ns lo hi).map PyData.int).map D.d by rw [List.map_map]; rfl]
      exact pures_map _
    · unfold cutP cutV
      rw [l1]
      exact (r1.drop _).take _
  · obtain ⟨ds, e, q⟩ := w
    obtain ⟨a, vs, rfl, h1, r1⟩ := lstOf_at hx S e
    have l1 := Paired.length r1
    refine sl_list pins s σ H _ v vl vu lo hi sl Q I rx hs pl pu ⟨a, vs, rfl, h1, fun p hp => mkL_go q S hp ?_ k⟩
    unfold cutP cutV
    rw [l1]
    exact (r1.drop _).take _
theorem pd_sl {lo hi : Option Expr} {tl th : TOd} (he : PD X e te) (hl : PDO X lo tl) (hu : PDO X hi th) : PD X (.Subscript e (.Slice lo hi none p2) pos) (dSl te tl th) :=
  PE.imp (pe_slice sl_imp he hl hu) fun σ H Q ⟨e, st, hid, Qd, re, S, h, k⟩ => ⟨e, st, hid, _, re, S, h, fun v H1 d st1 F1 S1 r1 h1 => ⟨e, st1, hid, _, re.mono F1 S.sr, S1, h1, fun l H2 st2 F2 S2 h2 =>
    ⟨e, st2, hid, _, re.mono (Fr.trans F1 F2) S.sr, S2, h2, fun u H3 st3 F3 S3 h3 => ⟨d, st3, hid, Qd, r1.mono (Fr.trans F2 F3) S1.sr, S3, h3, k.mono (Fr.trans F1 (Fr.trans F2 F3))⟩⟩⟩⟩
end
/-! ### x[::-1] of a list or a tuple -/
section
variable {prog : Program} {w : World} {A : Around} {E : Value → Shared → Prop} {s : Shared}
theorem back_run (items : Array Value) : ((List.range items.size).filterMap fun (m : Nat) => items[(((items.size : Int) - 1) + (m : Int) * (-1)).toNat]?) = items.toList.reverse := by
  rw [← PySem.W.krv_all items, ← List.filterMap_reverse, ← PySem.W.krv_range, List.filterMap_map]
  have key : ∀ l : List Nat, (∀ m ∈ l, m < items.size) → l.filterMap (fun (m : Nat) => items[(((items.size : Int) - 1) + (m : Int) * (-1)).toNat]?) = l.filterMap ((fun x => items[x]?) ∘ fun k => items.size - 1 - k) := by
    intro l
    induction l with
    | nil => intro _; rfl
    | cons m l ih =>
      intro hl
      have h0 := hl m List.mem_cons_self
      have e : (((items.size : Int) - 1) + (m : Int) * (-1)).toNat = items.size - 1 - m := by omega
      rw [List.filterMap_cons, List.filterMap_cons, ih fun k hk => hl k (List.mem_cons_of_mem _ hk), e]
      rfl
  exact key _ fun m hm => List.mem_range.mp hm
theorem back_adjust (n : Int) : Builtin.Slice.sliceAdjust none none (-1) n = (n - 1, -1) := by
  unfold Builtin.Slice.sliceAdjust
  rfl
theorem back_places (n : Nat) : Builtin.Slice.slicePlaces ((n : Int) - 1) (-1) (-1) = n := by
  unfold Builtin.Slice.slicePlaces
  have e : (-(-1) : Int) = 1 := by decide
  rw [if_neg (by omega), e, Int.ediv_one]
  split <;> omega
theorem back_applied {sl : Addr} {u : Tok} {n : Nat} {Q : Int × Int × Nat → Shared → Prop} (hs : s.heap.IsSliceOf sl .none .none (.int (-1) u)) (h : Q ((n : Int) - 1, -1, n) s) :
    wpAny (model prog w) A (Builtin.Slice.sliceApplied (.ref sl) (pure (n : Int))) Q E s := by
  obtain ⟨os, hos, hcs, hds⟩ := id hs
  unfold Builtin.Slice.sliceApplied Builtin.Slice.sliceFields
  refine wpAny_bind (wpAny_bind (wpAny_field hos hds (x := .none) rfl (wpAny_bind (wpAny_field hos hds (x := .none) rfl (wpAny_bind (wpAny_field hos hds (x := .int (-1) u) rfl (wpAny_pure ?_)))))))
  refine wpAny_bind (HT.slicePart_ (.int (-1) u) ?_)
  show wpAny _ _ (if ((-1 : Int) == 0) = true then _ else _) _ _ s
  rw [if_neg (by decide)]
  refine wpAny_bind (HT.slicePart_ .none (wpAny_bind (HT.slicePart_ .none (wpAny_bind (wpAny_pure ?_)))))
  show wpAny _ _ (match Builtin.Slice.sliceAdjust none none (-1) (n : Int) with | (lo, hi) => pure (lo, (-1 : Int), Builtin.Slice.slicePlaces lo hi (-1))) _ _ s
  rw [back_adjust]
  show wpAny _ _ (pure ((n : Int) - 1, (-1 : Int), Builtin.Slice.slicePlaces ((n : Int) - 1) (-1) (-1))) _ _ s
  rw [back_places]
  exact wpAny_pure h
theorem back_tuple {t sl : Addr} {items : Array Value} {u : Tok} {Q : Value → Shared → Prop} (ht : IsTup s.heap t items) (hs : s.heap.IsSliceOf sl .none .none (.int (-1) u))
    (h : Q (.ref s.heap.objs.size) { s with heap := s.heap.push { cls := .type "tuple", data := .seq items.toList.reverse.toArray } }) (hsz : items.size ≤ sizeLine) :
    wpAny (model prog w) A (getItem (.ref t) (.ref sl)) Q E s := by
  have hok : sizeOk (.seq items.toList.reverse.toArray) := by
    show items.toList.reverse.toArray.size ≤ sizeLine
    rw [List.size_toArray, List.length_reverse, Array.length_toList]
    exact hsz
  obtain ⟨os, hos, hcs, hds⟩ := id hs
  have hTs : s.TypeIs (.ref sl) "slice" := ⟨os, hos, hcs⟩
  unfold getItem
  try with_reducible refine wpAny_holding ?_
  first | refine wpAny_bind (wpAny_pure ?_) | skip
  refine wpAny_bind (wpAny_sequenceKey ht.typeIs (by decide) ?_)
  refine wpAny_bind (wpAny_callSpecial?_slot (name := Str.ofString "__getitem__") ht.typeIs PyProof.Rows.slot_tuple_getitem (wpAny_call_entry PyProof.Rows.slot_tuple_getitem ht.typeIs entry_tuple_getitem ?_ (args_tuple_getitem _ _)))
  show wpAny _ _ (Builtin.Tuple.tupleItemsOf (.ref t) >>= _) _ _ s
  refine wpAny_bind (tupleItemsOf_ ht (wpAny_bind (wpAny_typeOf hTs ?_)))
  rw [if_pos (by decide)]
  refine wpAny_bind (back_applied hs ?_)
  show wpAny _ _ (if ((((items.size : Int) - 1) == 0 && (-1 : Int) == 1) && items.size == items.size) = true then _ else _) _ _ s
  rw [if_neg (by rw [show ((-1 : Int) == 1) = false by decide, Bool.and_false, Bool.false_and]; decide), back_run]
  first
    | exact wpAny_bind (m := Builtin.Tuple.tupleExact _) (wpAny_newObj_type (wpAny_pure ⟨_, rfl, wpAny_pure h⟩) hok)
    | exact wpAny_bind (m := Builtin.Tuple.tupleExact _) (wpAny_newObj_type (wpAny_bind (wpAny_pure (wpAny_pure ⟨_, rfl, wpAny_pure h⟩))) hok)
    | exact wpAny_bind (wpAny_bind (m := Builtin.Tuple.tupleExact _) (wpAny_newObj_type (wpAny_pure (wpAny_pure ⟨_, rfl, wpAny_pure h⟩)) hok))
    | exact wpAny_bind (wpAny_bind (m := Builtin.Tuple.tupleExact _) (wpAny_newObj_type (wpAny_pure ⟨_, rfl, wpAny_pure h⟩) hok))
end
section
variable {X : Cx} {pos p p2 : Pos} {a b c e : Expr} {es rest : List Expr} {ta tb tc te : TEd} {t : TAd}
def dRev (te : TEd) : TEd := fun e st Q => te e st fun x st1 => match x with
  | .d (.tuple xs) => Q (.d (.tuple xs.reverse)) st1
  | x => ∃ ds, lstOf x st1 = some ds ∧ mkL ds.reverse st1 Q
theorem pd_rev {k : Nat} {p1 p2 p3 : Pos} (he : PD X e te) : PD X (.Subscript e (.Slice none none (some (.UnaryOp .USub (.Constant (.int 1) k p1) p2)) p3) pos) (dRev te) := by
  refine ⟨fun pins s σ H Q I ⟨en, st, hid, Qd, re, S, h, kk⟩ => ?_⟩
  refine Subscript_ (thn (he.run pins s σ H (fun x H1 => ∃ d st1, FrX st hid H st1 H1 ∧ Sx X.K st1 hid H1 ∧ DvD X.K (jn st1 hid) H1 x d ∧ (match d with
    | .d (.tuple xs) => Qd (.d (.tuple xs.reverse)) st1
    | x => ∃ ds, lstOf x st1 = some ds ∧ mkL ds.reverse st1 Qd)) I ⟨en, st, hid, _, re, S, h, fun v H' d st' F S r q => ⟨d, st', F, S, r, q⟩⟩) fun v s1 ⟨x, H1, I1, r1, d, st1, F1, S1, r, q1⟩ => ?_)
  have hst : PO X (some (.UnaryOp .USub (.Constant (.int 1) k p1) p2)) (tPart (tUn (rU fun i => .int (-i)) (tC (.int 1)))) := po_some (pe_un un_neg pe_int)
  refine wpAny_Slice (thn (po_none.run pins s1 σ H1 (fun o H2 => o = none ∧ H2 = H1) I1 ⟨rfl, rfl⟩) fun vl s2 ⟨l, H2, I2, pl, el, e2⟩ => ?_)
  subst el e2
  refine thn (po_none.run pins s2 σ H2 (fun o H3 => o = none ∧ H3 = H2) I2 ⟨rfl, rfl⟩) fun vu s3 ⟨u, H3, I3, pu, eu, e3⟩ => ?_
  subst eu e3
  refine thn (hst.run pins s3 σ H3 (fun o H4 => o = some (-1) ∧ H4 = H3) I3 ⟨1, rfl, -1, rfl, rfl, rfl⟩) fun vs s4 ⟨o, H4, I4, ps, eo, e4⟩ => ?_
  subst eo e4
  have I5 : Inv X pins σ H4 { s4 with heap := s4.heap.push { cls := .type "slice", data := .fields #[vl, vu, vs] } } := I4.kept (t' := s4.toks) fun b ob q => Heap.get?_push_of_some _ q
  cases pl
  cases pu
  rcases ps with _ | ⟨_, tk⟩
  split at q1
  · rename_i xs
    obtain ⟨a, ws, rfl, h1, r2⟩ := tup_at r
    cases r1
    obtain ⟨its, rv, ht, hz⟩ := I5.tuple h1
    have hlen := rv.length
    show wpAny (model X.prog X.w) X.A (subscriptTail e (.Slice none none (some (.UnaryOp .USub (.Constant (.int 1) k p1) p2)) p3) (.ref a) (.ref s4.heap.objs.size)) (EP X pins σ Q) X.xe { s4 with heap := s4.heap.push { cls := .type "slice", data := .fields #[.none, .none, .int (-1) tk] } }
    refine tail_any (ops := [.ref a, .ref s4.heap.objs.size]) ht.typeIs (PyProof.Rows.slot_tuple_getitem.lookup) ?_ (by with_unfolding_all rfl)
    refine back_tuple ht (Heap.IsSliceOf.new _ .none .none (.int (-1) tk)) ?_ (by rw [List.size_toArray]; omega)
    have hn := I5.hok.fresh (Nat.le_refl _)
    refine ⟨.ref _, _, I5.laid (t' := s4.toks) (o := .tup ws.reverse) (fun b ob q => Heap.get?_push_of_some _ q) (Nat.le_refl _) ?_, rfl, (Go.mono kk F1).new S1 hn (.d (.tup (.inl (.inl upd_same)) (Dvs.of ?_))) q1⟩
    · exact ⟨by rw [List.length_reverse]; exact hz, _, rv.reverse, IsTup.new _ _⟩
    · rw [List.map_reverse]
      exact ((Dvs.to r2).reverse).mono (fr_new hn) S1.sr
  · obtain ⟨ds, e1, q⟩ := q1
    obtain ⟨a, ws, rfl, h1, r2⟩ := lstOf_at r S1 e1
    cases r1
    obtain ⟨its, rv, ht, hz⟩ := I5.list h1
    have hlen := rv.length
    show wpAny (model X.prog X.w) X.A (subscriptTail e (.Slice none none (some (.UnaryOp .USub (.Constant (.int 1) k p1) p2)) p3) (.ref a) (.ref s4.heap.objs.size)) (EP X pins σ Q) X.xe { s4 with heap := s4.heap.push { cls := .type "slice", data := .fields #[.none, .none, .int (-1) tk] } }
    refine tail_any (ops := [.ref a, .ref s4.heap.objs.size]) ht.isList.typeIs (PySem.slot_list_getitem.lookup) ?_ (by with_unfolding_all rfl)
    refine wpAny_getItem_list_slice ht.isList (Heap.IsSliceOf.new _ .none .none (.int (-1) tk)) .none .none (.int (-1) tk) (by decide) ?_ (by rw [List.size_toArray]; omega)
    rw [PySem.W.krv_pick]
    have hn := I5.hok.fresh (Nat.le_refl _)
    refine ⟨.ref _, _, I5.laid (t' := s4.toks) (o := .lst ws.reverse) (fun b ob q => Heap.get?_push_of_some _ q) (Nat.le_refl _) ?_, rfl, mkL_go q S1 hn r2.reverse (Go.mono kk F1)⟩
    exact ⟨by rw [List.length_reverse]; exact hz, _, 0, rv.reverse, Heap.get?_push_size _ rfl⟩
end
end DL
namespace DL
open PySem PySem.Spec PyProof.Rows L2
variable [Tabs]
/-! ### calls of what is built in -/
/-- 2 ^ 9000 -/
def big9 : Nat := 2 ^ 9000
abbrev RCd := List D → Sto → Kd → Prop
def upC (K : PySem.W.Frag) (r : RCd) : List V → Hp → VK → Prop := fun vs H Q => ∃ ds st hid Qd, DvsD K (jn st hid) H vs ds ∧ Sx K st hid H ∧ r ds st Qd ∧ Go K st hid H Qd Q
def dCall (r : RCd) (t : TAd) : TEd := fun e st Q => t e st fun ds st1 => r ds st1 Q
theorem CallR.imp {X : Cx} {f : Value} {r r' : List V → Hp → VK → Prop} (h : CallR X f r) (i : ∀ xs H Q, r' xs H Q → r xs H Q) : CallR X f r' := fun pins s σ H xs us Q I rx q => h pins s σ H xs us Q I rx (i xs H Q q)
section
variable {X : Cx} {x : Str} {id T : String} {pos p p2 : Pos} {a b c e : Expr} {es rest : List Expr} {ta tb tc te : TEd} {t : TAd} {r : RCd}
theorem call_imp {K : PySem.W.Frag} {σ : L2.St} {H : Hp} {Q : VK} (w : up K (dCall r t) σ H Q) : tCB (upC K r) (upA K t) σ H Q := by
  obtain ⟨e, st, hid, Qd, re, S, h, k⟩ := w
  exact ⟨e, st, hid, _, re, S, h, fun vs H1 ds st1 F1 S1 r1 h1 => ⟨ds, st1, hid, Qd, r1, S1, h1, k.mono F1⟩⟩
theorem pd_callB (hc : CallR X (.builtin id) (upC X.K r)) (hg : Gl X x) (hm : X.mg x = none) (hv : bootBuiltins x = some (.builtin id)) (ha : PDA X (e :: es) t) (hn : x ≠ "__name__" := by decide) (hdb : (x == ("__debug__" : Str)) = false := by decide)
    (he : starEach (e :: es) X.env = (false, eval e X.env) :: starEach es X.env := by rfl) (hpl : (backTo pos (starEach es X.env)).any (·.1) = false := by rfl) : PD X (.Call (.Name x p) (e :: es) [] pos) (dCall r t) :=
  PE.imp (pe_callB hc hg hm hv ha hn hdb he hpl) fun _ _ _ => call_imp
theorem pd_callTy (hc : CallR X (.type T) (upC X.K r)) (hg : Gl X x) (hm : X.mg x = none) (hv : bootBuiltins x = some (.type T)) (ha : PDA X (e :: es) t) (hn : x ≠ "__name__" := by decide) (hdb : (x == ("__debug__" : Str)) = false := by decide)
    (he : starEach (e :: es) X.env = (false, eval e X.env) :: starEach es X.env := by rfl) (hpl : (backTo pos (starEach es X.env)).any (·.1) = false := by rfl) : PD X (.Call (.Name x p) (e :: es) [] pos) (dCall r t) :=
  PE.imp (pe_callTy hc hg hm hv ha hn hdb he hpl) fun _ _ _ => call_imp
theorem pd_callM (hc : CallR X (.builtin id) (upC X.K r)) (hg : Gl X x) (hm : X.mg x = some (.builtin id)) (ha : PDA X (e :: es) t) (hdb : (x == ("__debug__" : Str)) = false := by decide)
    (he : starEach (e :: es) X.env = (false, eval e X.env) :: starEach es X.env := by rfl) (hpl : (backTo pos (starEach es X.env)).any (·.1) = false := by rfl) : PD X (.Call (.Name x p) (e :: es) [] pos) (dCall r t) :=
  PE.imp (pe_callBfun hc hg hm ha hdb he hpl) fun _ _ _ => call_imp
theorem DvsD.one {K : PySem.W.Frag} {st : Sto} {H : Hp} {vs : List V} {d : D} (r : DvsD K st H vs [d]) : ∃ v, vs = [v] ∧ DvD K st H v d := by
  cases r with
  | cons h t =>
    cases t
    exact ⟨_, rfl, h⟩
theorem DvsD.two {K : PySem.W.Frag} {st : Sto} {H : Hp} {vs : List V} {d d' : D} (r : DvsD K st H vs [d, d']) : ∃ v v', vs = [v, v'] ∧ DvD K st H v d ∧ DvD K st H v' d' := by
  cases r with
  | cons h t =>
    cases t with
    | cons h' t' =>
      cases t'
      exact ⟨_, _, rfl, h, h'⟩
/-- of one int -/
def rC1 (C : Int → Prop) (g : Int → PyData) : RCd := fun ds st Q => match ds with
  | [.d (.int i)] => C i ∧ Q (.d (g i)) st
  | _ => False
def rC2 (C : Int → Int → Prop) (g : Int → Int → PyData) : RCd := fun ds st Q => match ds with
  | [.d (.int i), .d (.int j)] => C i j ∧ Q (.d (g i j)) st
  | _ => False
theorem rC1_at {K : PySem.W.Frag} {C : Int → Prop} {g : Int → PyData} {vs : List V} {ds : List D} {st hid : Sto} {H : Hp} {Q : Kd} (r : DvsD K (jn st hid) H vs ds) (h : rC1 C g ds st Q) : ∃ i, vs = [.int i] ∧ C i ∧ Q (.d (g i)) st := by
  unfold rC1 at h
  split at h
  · obtain ⟨v, rfl, r1⟩ := r.one
    cases int_at r1
    exact ⟨_, rfl, h.1, h.2⟩
  · exact h.elim
theorem rC2_at {K : PySem.W.Frag} {C : Int → Int → Prop} {g : Int → Int → PyData} {vs : List V} {ds : List D} {st hid : Sto} {H : Hp} {Q : Kd} (r : DvsD K (jn st hid) H vs ds) (h : rC2 C g ds st Q) : ∃ i j, vs = [.int i, .int j] ∧ C i j ∧ Q (.d (g i j)) st := by
  unfold rC2 at h
  split at h
  · obtain ⟨v, v', rfl, r1, r2⟩ := r.two
    cases int_at r1
    cases int_at r2
    exact ⟨_, _, rfl, h.1, h.2⟩
  · exact h.elim
def cAbs : RCd := rC1 (fun _ => True) fun i => .int (if i < 0 then -i else i)
def cInt : RCd := rC1 (fun _ => True) fun i => .int i
def cStrI : RCd := rC1 (fun i => i.natAbs.log2 < 1920) fun i => .str (toString i)
def cDivmod : RCd := rC2 CDivP fun i j => .tuple [.int (i / j), .int (i % j)]
def cMin : RCd := rC2 (fun _ _ => True) fun i j => .int (if j < i then j else i)
def cMax : RCd := rC2 (fun _ _ => True) fun i j => .int (if j > i then j else i)
def cGcd : RCd := rC2 (fun _ _ => True) fun i j => .int ((Nat.gcd i.natAbs j.natAbs : Nat) : Int)
def cLcm : RCd := rC2 (fun i j => i.natAbs < big9 ∧ j.natAbs < big9) fun i j => .int ((Nat.lcm i.natAbs j.natAbs : Nat) : Int)
theorem c_abs : CallR X (.builtin "abs") (upC X.K cAbs) := CallR.imp call_abs fun vs H Q ⟨ds, st, hid, Qd, r, S, w, k⟩ => by
  obtain ⟨i, rfl, _, q⟩ := rC1_at r w
  exact ⟨i, rfl, k.now S (.d (.int _)) q⟩
theorem c_int : CallR X (.type "int") (upC X.K cInt) := CallR.imp call_int1 fun vs H Q ⟨ds, st, hid, Qd, r, S, w, k⟩ => by
  obtain ⟨i, rfl, _, q⟩ := rC1_at r w
  exact .inl ⟨i, rfl, k.now S (.d (.int _)) q⟩
theorem c_str : CallR X (.type "str") (upC X.K cStrI) := CallR.imp call_str_int fun vs H Q ⟨ds, st, hid, Qd, r, S, w, k⟩ => by
  obtain ⟨i, rfl, h, q⟩ := rC1_at r w
  exact ⟨i, rfl, h, k.now S (.d (.str _)) q⟩
theorem c_min (hc : X.calm = true) : CallR X (.builtin "min") (upC X.K cMin) := CallR.imp (call_min2 hc) fun vs H Q ⟨ds, st, hid, Qd, r, S, w, k⟩ => by
  obtain ⟨i, j, rfl, _, q⟩ := rC2_at r w
  exact ⟨i, j, rfl, k.now S (.d (.int _)) q⟩
theorem c_max (hc : X.calm = true) : CallR X (.builtin "max") (upC X.K cMax) := CallR.imp (call_max2 hc) fun vs H Q ⟨ds, st, hid, Qd, r, S, w, k⟩ => by
  obtain ⟨i, j, rfl, _, q⟩ := rC2_at r w
  exact ⟨i, j, rfl, k.now S (.d (.int _)) q⟩
theorem c_gcd : CallR X (.builtin "math.gcd") (upC X.K cGcd) := CallR.imp cr_gcd fun vs H Q ⟨ds, st, hid, Qd, r, S, w, k⟩ => by
  obtain ⟨i, j, rfl, _, q⟩ := rC2_at r w
  exact ⟨i, j, rfl, k.now S (.d (.int _)) q⟩
theorem c_divmod : CallR X (.builtin "divmod") (upC X.K cDivmod) := CallR.imp call_divmodW fun vs H Q ⟨ds, st, hid, Qd, r, S, w, k⟩ => by
  obtain ⟨i, j, rfl, h, q⟩ := rC2_at r w
  exact ⟨i, j, rfl, h, fun p hp => k.new S hp (.d (.tup (.inl (.inl upd_same)) (.cons (.int _) (.cons (.int _) .nil)))) q⟩
theorem big_log {n : Nat} (h : n < big9) : ¬ n.log2 / 30 + 1 > 450 := by
  unfold big9 at h
  have := PySem.W.mg_log (k := 8999) h
  omega
theorem c_lcm : CallR X (.builtin "math.lcm") (upC X.K cLcm) := fun pins s σ H vs us Q I rx ⟨ds, st, hid, Qd, r, S, w, k⟩ => by
  obtain ⟨i, j, rfl, ⟨hi, hj⟩, q⟩ := rC2_at r w
  obtain ⟨t, u, rfl⟩ := Vals.int2 rx
  have one : Nat.lcm 1 i.natAbs = i.natAbs := PySem.W.mc_lcm_one _
  have p1 : (1 : Nat) < big9 := by
    unfold big9
    exact Nat.one_lt_two_pow (by decide)
  have hm : max 1 i.natAbs < big9 := Nat.max_lt.mpr ⟨p1, hi⟩
  have hm2 : max i.natAbs j.natAbs < big9 := Nat.max_lt.mpr ⟨hi, hj⟩
  have hl : (i.natAbs.lcm j.natAbs).log2 < bitsLine := PySem.W.mc_size (k := 300) (Nat.le_trans (PySem.W.mc_lcm_le _ _) (by
    have h1 : i.natAbs * j.natAbs ≤ big9 * big9 := Nat.mul_le_mul (Nat.le_of_lt hi) (Nat.le_of_lt hj)
    unfold big9 at h1
    rw [← Nat.pow_add] at h1
    exact Nat.le_trans h1 (Nat.pow_le_pow_right (by decide) (by decide)))) (by decide)
  have g := PySem.W.mg_run_lcm i t j u (big_log hm) (big_log hm2) (by rw [one]; exact hl)
  rw [one] at g
  exact PySem.call_function_meets PySem.W.MGF.kind_lcm PySem.W.MGF.plain_lcm PySem.W.MGF.entry_lcm (PySem.W.MGF.args_lcm _ _) g.meets ⟨.int _, H, I.tok _, ⟨_, rfl⟩, k.now S (.d (.int _)) q⟩
def cLen : RCd := fun ds st Q => match ds with
  | [.d (.tuple xs)] => Q (.d (.int xs.length)) st
  | [.d (.str z)] => z.length ≤ sizeLine ∧ Q (.d (.int z.length)) st
  | [x] => ∃ ds, lstOf x st = some ds ∧ Q (.d (.int ds.length)) st
  | _ => False
theorem c_len : CallR X (.builtin "len") (upC X.K cLen) := fun pins s σ H vs us Q I rx ⟨ds, st, hid, Qd, r, S, w, k⟩ => by
  unfold cLen at w
  split at w
  · obtain ⟨v, rfl, r1⟩ := r.one
    obtain ⟨a, ws, rfl, h1, r2⟩ := tup_at r1
    rw [← r2.length] at w
    exact call_len_seq pins s σ H _ us Q I rx ⟨a, ws, rfl, .inr h1, k.now S (.d (.int _)) w⟩
  · obtain ⟨v, rfl, r1⟩ := r.one
    cases str_at r1
    exact call_len_str pins s σ H _ us Q I rx ⟨_, rfl, w.1, k.now S (.d (.int _)) w.2⟩
  · obtain ⟨v, rfl, r1⟩ := r.one
    obtain ⟨ds, e, q⟩ := w
    obtain ⟨a, ws, rfl, h1, r2⟩ := lstOf_at r1 S e
    rw [← Paired.length r2] at q
    exact call_len_seq pins s σ H _ us Q I rx ⟨a, ws, rfl, .inl h1, k.now S (.d (.int _)) q⟩
  · exact w.elim
theorem bools_at {K : PySem.W.Frag} {st : Sto} {H : Hp} : ∀ {vs : List V} {bs : List Bool}, DvsD K st H vs (bs.map fun b => .d (.bool b)) → vs = bs.map V.bl
  | [], [], _ => rfl
  | _ :: _, b :: bs, .cons (.d h) t => by
    cases h
    rw [bools_at t]
    rfl
def cAll : RCd := fun ds st Q => match ds with
  | [x] => ∃ bs : List Bool, lstOf x st = some (bs.map fun b => .d (.bool b)) ∧ Q (.d (.bool (bs.all _root_.id))) st
  | _ => False
theorem c_all (hc : X.calm = true) : CallR X (.builtin "all") (upC X.K cAll) := CallR.imp (cr_all hc) fun vs H Q ⟨ds, st, hid, Qd, r, S, w, k⟩ => by
  unfold cAll at w
  split at w
  · obtain ⟨v, rfl, r1⟩ := r.one
    obtain ⟨bs, e, q⟩ := w
    obtain ⟨a, ws, rfl, h1, r2⟩ := lstOf_at r1 S e
    rw [bools_at r2] at h1
    exact ⟨a, bs, rfl, h1, k.now S (.d (.bl _)) q⟩
  · exact w.elim
/-- list(x) -/
def cList : RCd := fun ds st Q => match ds with
  | [.d (.tuple xs)] => mkL (xs.map D.d) st Q
  | [x] => ∃ ds, lstOf x st = some ds ∧ mkL ds st Q
  | _ => False
theorem c_list : CallR X (.type "list") (upC X.K cList) := CallR.imp call_list_of fun vs H Q ⟨ds, st, hid, Qd, r, S, w, k⟩ => by
  unfold cList at w
  split at w
  · obtain ⟨v, rfl, r1⟩ := r.one
    obtain ⟨a, ws, rfl, h1, r2⟩ := tup_at r1
    exact ⟨a, ws, rfl, .inr h1, fun l hl => mkL_go w S hl (Dvs.to r2) k⟩
  · obtain ⟨v, rfl, r1⟩ := r.one
    obtain ⟨ds, e, q⟩ := w
    obtain ⟨a, ws, rfl, h1, r2⟩ := lstOf_at r1 S e
    exact ⟨a, ws, rfl, .inl h1, fun l hl => mkL_go q S hl r2 k⟩
  · exact w.elim
/-- .. as a value -/
def cListV : RCd := fun ds st Q => match ds with
  | [.d (.tuple xs)] => Q (.d (.list xs)) st
  | [.d (.list xs)] => Q (.d (.list xs)) st
  | [x] => ∃ xs : List PyData, lstOf x st = some (xs.map D.d) ∧ Q (.d (.list xs)) st
  | _ => False
theorem c_listV : CallR X (.type "list") (upC X.K cListV) := CallR.imp c_list fun vs H Q ⟨ds, st, hid, Qd, r, S, w, k⟩ => by
  refine ⟨ds, st, hid, Qd, r, S, ?_, k⟩
  unfold cListV at w
  split at w
  · exact .inl ⟨_, pures_map _, w⟩
  · exact ⟨_, rfl, .inl ⟨_, pures_map _, w⟩⟩
  · rename_i x n1 n2
    obtain ⟨xs, e, q⟩ := w
    unfold cList
    split
    · rename_i h
      cases h
      exact absurd rfl (n1 _)
    · rename_i h
      cases h
      exact ⟨_, e, .inl ⟨_, pures_map _, q⟩⟩
    · rename_i n4
      exact absurd rfl (n4 x)
  · exact w.elim
/-- tuple(x) -/
def cTuple : RCd := fun ds st Q => match ds with
  | [.d (.tuple xs)] => Q (.d (.tuple xs)) st
  | [x] => ∃ xs : List PyData, lstOf x st = some (xs.map D.d) ∧ Q (.d (.tuple xs)) st
  | _ => False
theorem c_tuple : CallR X (.type "tuple") (upC X.K cTuple) := CallR.imp call_tuple_of fun vs H Q ⟨ds, st, hid, Qd, r, S, w, k⟩ => by
  unfold cTuple at w
  split at w
  · obtain ⟨v, rfl, r1⟩ := r.one
    obtain ⟨a, ws, rfl, h1, r2⟩ := tup_at r1
    exact ⟨a, ws, rfl, .inr ⟨h1, k.now S r1 w⟩⟩
  · obtain ⟨v, rfl, r1⟩ := r.one
    obtain ⟨xs, e, q⟩ := w
    obtain ⟨a, ws, rfl, h1, r2⟩ := lstOf_at r1 S e
    exact ⟨a, ws, rfl, .inl ⟨h1, fun l hl => k.new S hl (.d (.tup (.inl (.inl upd_same)) ((Dvs.of r2).mono (fr_new hl) S.sr))) q⟩⟩
  · exact w.elim
/-- repr(x) -/
def cRepr : RCd := fun ds st Q => match ds with
  | [.d x] => x.hasDict = false ∧ x.showable = true ∧ x.shown.length ≤ sizeLine ∧ x.depth ≤ 64 ∧ Q (.d (.str x.shown)) st
  | _ => False
theorem c_repr (hG : X.A.guards = some []) (hu : X.A.units + 65 < cLine) : CallR X (.builtin "repr") (upC X.K cRepr) := fun pins s σ H vs us Q I rx ⟨ds, st, hid, Qd, r, S, w, k⟩ => by
  unfold cRepr at w
  split at w
  · rename_i x
    obtain ⟨v, rfl, r1⟩ := r.one
    obtain ⟨h1, h2, h3, h4, q⟩ := w
    cases r1 with
    | d r1 =>
      obtain ⟨u, rfl, ru⟩ := vals1 rx
      have fin : ∀ {h' : Heap} {uu : Tok} {tk : Nat}, (∀ b o, s.heap.get? b = some o → h'.get? b = some o) → EP X pins σ Q (.str x.shown uu) { s with heap := h', toks := tk } := fun {h' uu tk} kp => ⟨.str _, H, I.kept kp, ⟨_, rfl⟩, k.now S (.d (.str _)) q⟩
      cases r1 with
      | non =>
        cases ru
        exact PySem.P.repr_of_none (fin fun _ _ e => e)
      | bl b =>
        cases ru
        have := fin (h' := s.heap) (uu := s.toks) (tk := s.toks + 1) fun _ _ e => e
        rw [PyData.shown_bool] at this
        exact PySem.P.repr_of_bool this
      | int i =>
        obtain ⟨t, rfl⟩ := ru
        have := fin (h' := s.heap) (uu := s.toks) (tk := s.toks + 1) fun _ _ e => e
        rw [PyData.shown_int] at this
        exact PySem.P.repr_of_int (by simpa [PyData.showable] using h2) this
      | str i =>
        obtain ⟨t, rfl⟩ := ru
        have := fin (h' := s.heap) (uu := s.toks) (tk := s.toks + 1) fun _ _ e => e
        rw [PyData.shown_str] at this h3
        exact PySem.P.repr_of_str this h3
      | lst h f rr =>
        cases ru
        obtain ⟨as, rd⟩ := Dp.reads I _ _ _ ((Dv.lst h f rr).dp h1) rfl
        exact repr_of_reads' rd h2 (fun z => by rw [h1] at z; cases z) hG (by omega) (fun _ _ e => e) (fun h' u tk kp => fin kp) h3
      | tup h rr =>
        cases ru
        obtain ⟨as, rd⟩ := Dp.reads I _ _ _ ((Dv.tup h rr).dp h1) rfl
        exact repr_of_reads' rd h2 (fun z => by rw [h1] at z; cases z) hG (by omega) (fun _ _ e => e) (fun h' u tk kp => fin kp) h3
      | dic h f rr qq =>
        cases h1
  · exact w.elim
/-! ### isinstance(x, T) -/
def tyD : D → String
  | .d .none => "NoneType"
  | .d (.bool _) => "bool"
  | .d (.int _) => "int"
  | .d (.str _) => "str"
  | .d (.tuple _) => "tuple"
  | .d (.dict _) => "dict"
  | _ => "list"
def isT (T : String) (d : D) : Bool := (kitB (tyD d) T).getD false
theorem ty_at {K : PySem.W.Frag} {st : Sto} {H : Hp} {v : V} {d : D} (r : DvD K st H v d) (S : SR K st H) (ho : ∀ a, d = .own a → (st a).isSome = true) : TyX K H v (.type (tyD d)) := by
  cases r with
  | own a =>
    obtain ⟨ds, e⟩ := Option.isSome_iff_exists.mp (ho a rfl)
    obtain ⟨xs, h, _⟩ := S a ds e
    exact .base (.lst h)
  | scr h f =>
    rcases h with (h | ⟨o, h⟩) | ⟨o, its, n, h, hc, _⟩
    · exact .base (.lst h)
    · exact .base (.frz h)
    · exact .kList h hc
  | d h =>
    cases h with
    | non => exact .base .non
    | bl b => exact .base (.bl b)
    | int i => exact .base (.int i)
    | str i => exact .base (.str i)
    | lst h f r => exact .base (.lst h)
    | dic h f r q => exact .base (.dK h)
    | tup h r =>
      rcases h with (h | ⟨o, h⟩) | ⟨o, its, n, h, hc, _⟩
      · exact .base (.tup h)
      · exact .fTuple h
      · exact .kTuple h hc
def dIs (T : String) (te : TEd) : TEd := fun e st Q => te e st fun d st1 => (∀ a, d = .own a → (st1 a).isSome = true) ∧ (kitB (tyD d) T).isSome = true ∧ Q (.d (.bool (isT T d))) st1
theorem pd_is {y : Str} (hg : Gl X "isinstance") (hm : X.mg "isinstance" = none) (hg2 : Gl X y) (hm2 : X.mg y = none) (hv2 : bootBuiltins y = some (.type T)) (he : PD X e te) (hv : bootBuiltins "isinstance" = some (.builtin "isinstance") := by rfl)
    (hn2 : y ≠ "__name__" := by decide) (hd2 : (y == ("__debug__" : Str)) = false := by decide)
    (h1 : starEach [.Name y p2] X.env = [(false, eval (.Name y p2) X.env)] := by rfl) (hs : starEach [e, .Name y p2] X.env = (false, eval e X.env) :: starEach [.Name y p2] X.env := by rfl) (hpl : (backTo pos (starEach [.Name y p2] X.env)).any (·.1) = false := by rfl) :
    PD X (.Call (.Name "isinstance" p) [e, .Name y p2] [] pos) (dIs T te) :=
  PE.imp (pe_callB call_isi hg hm hv (pa_cons he (pa_cons (pe_bltn (v := .ty T) hg2 hm2 hv2 rfl hn2 hd2) pa_nil h1) hs) (by decide) (by decide) hs hpl) fun σ H Q ⟨e, st, hid, Qd, re, S, h, k⟩ => ⟨e, st, hid, _, re, S, h, fun v H1 d st1 F1 S1 r ⟨h0, h1, q⟩ => by
    obtain ⟨b, hb⟩ := Option.isSome_iff_exists.mp h1
    have eb : isT T d = b := by
      unfold isT
      rw [hb]
      rfl
    rw [eb] at q
    exact ⟨v, .ty T, .type (tyD d), .type T, b, rfl, .ty T, ty_at r S1.sr (fun a z => by
      obtain ⟨ds, e⟩ := Option.isSome_iff_exists.mp (h0 a z)
      rw [jn_some e]
      rfl), kit_ty hb, (Go.mono k F1).now S1 (.d (.bl b)) q⟩⟩
end
end DL
namespace DL
open PySem PySem.Spec PyProof.Rows L2
variable [Tabs]
/-! ### what is walked -/
structure ItD where
  xs : List D
  dep : Option (Addr × List D) := none
def ItD.at (it : ItD) (st : Sto) : Prop := ∀ a ds, it.dep = some (a, ds) → st a = some ds
/-- J walks just these, whatever is laid meanwhile -/
def ItOk (K : PySem.W.Frag) (F0 : Sto) (H0 : Hp) (J : It) (it : ItD) : Prop := ∀ (i : Nat) (F : Sto) (H : Hp), Fr F0 H0 F H → SR K F H → it.at F →
  (∀ d, it.xs[i]? = some d → J.go i H ∧ ∀ x H', J.yld i H x H' → Fr F H F H' ∧ SR K F H' ∧ DvD K F H' x d) ∧ (it.xs.length ≤ i → J.stop i H)
abbrev TId := Ed → Sto → (ItD → Sto → Prop) → Prop
def upI (K : PySem.W.Frag) (t : TId) : TI := fun σ H R => ∃ e st hid Rd, RE K (jn st hid) H σ e ∧ Sx K st hid H ∧ t e st Rd ∧ ∀ J H' it st', FrX st hid H st' H' → Sx K st' hid H' → ItOk K (jn st' hid) H' J it → it.at st' → Rd it st' → R J H'
abbrev PDI (X : Cx) (tg iter : Expr) (t : TId) : Prop := PI X tg iter (upI X.K t)
theorem PI.imp {X : Cx} {tg iter : Expr} {t t' : TI} (h : PI X tg iter t) (i : ∀ σ H Q, t' σ H Q → t σ H Q) : PI X tg iter t' := ⟨fun pins s σ H Q I w => h.run pins s σ H Q I (i σ H Q w)⟩
def dIter (te : TEd) : TId := fun e st R => te e st fun d st1 => match d with
  | .d (.tuple xs) => R ⟨xs.map D.d, none⟩ st1
  | .d (.list xs) => R ⟨xs.map D.d, none⟩ st1
  | .own a => ∃ ds, st1 a = some ds ∧ R ⟨ds, some (a, ds)⟩ st1
  | .scr ns => R ⟨ns.map fun n => .d (.int n), none⟩ st1
  | _ => False
section
variable {K : PySem.W.Frag} {F0 : Sto} {H0 : Hp} {a : Addr}
theorem Fr.same {F : Sto} {H : Hp} {H' : Hp} (e : H' = H) : Fr F H F H' := by
  subst e
  exact Fr.refl _ _
theorem itok_tup {vs : List V} {xs : List PyData} (h : SqT K H0 a vs) (r : Dvs K F0 H0 vs xs) (S0 : SR K F0 H0) : ItOk K F0 H0 (Itt K a) ⟨xs.map D.d, none⟩ := fun i F H fr S _ => by
  have h' := sqT_mono fr S0 h
  have r' := r.mono fr S0
  refine ⟨fun d e => ?_, fun z => ⟨vs, h', by
    have z' : (xs.map D.d).length ≤ i := z
    rw [List.length_map] at z'
    rw [r'.length]
    exact z'⟩⟩
  obtain ⟨v, e1, r1⟩ := (Dvs.to r').get e
  refine ⟨⟨vs, v, h', e1⟩, fun x H' ⟨eh, y⟩ => ?_⟩
  subst eh
  have e2 := y vs h'
  rw [e1] at e2
  cases e2
  exact ⟨Fr.refl _ _, S, r1⟩
theorem itok_lst {vs : List V} {xs : List PyData} (h : H0 a = some (.lst vs)) (f : F0 a = none) (r : Dvs K F0 H0 vs xs) (S0 : SR K F0 H0) : ItOk K F0 H0 (Itl K a) ⟨xs.map D.d, none⟩ := fun i F H fr S _ => by
  have h' : SqL K H a vs := .inl (.inl (fr a _ h f fun _ z => nomatch z).1)
  have r' := r.mono fr S0
  refine ⟨fun d e => ?_, fun z => ⟨vs, h', by
    have z' : (xs.map D.d).length ≤ i := z
    rw [List.length_map] at z'
    rw [r'.length]
    exact z'⟩⟩
  obtain ⟨v, e1, r1⟩ := (Dvs.to r').get e
  refine ⟨⟨vs, v, h', e1⟩, fun x H' ⟨eh, y⟩ => ?_⟩
  subst eh
  have e2 := y vs h'
  rw [e1] at e2
  cases e2
  exact ⟨Fr.refl _ _, S, r1⟩
theorem itok_own {ds : List D} : ItOk K F0 H0 (Itl K a) ⟨ds, some (a, ds)⟩ := fun i F H fr S at_ => by
  obtain ⟨vs, h, r⟩ := S a ds (at_ a ds rfl)
  have h' : SqL K H a vs := .inl (.inl h)
  refine ⟨fun d e => ?_, fun z => ⟨vs, h', by
    rw [Paired.length r]
    exact z⟩⟩
  obtain ⟨v, e1, r1⟩ := r.get e
  refine ⟨⟨vs, v, h', e1⟩, fun x H' ⟨eh, y⟩ => ?_⟩
  subst eh
  have e2 := y vs h'
  rw [e1] at e2
  cases e2
  exact ⟨Fr.refl _ _, S, r1⟩
theorem itok_scr {ns : List Int} (h : DvD K F0 H0 (.ref a) (.scr ns)) (S0 : SR K F0 H0) : ItOk K F0 H0 (Itl K a) ⟨ns.map fun n => .d (.int n), none⟩ := fun i F H fr S _ => by
  cases h.mono fr S0 with
  | scr h' f =>
    refine ⟨fun d e => ?_, fun z => ⟨_, h', by
      have z' : (ns.map fun n => D.d (.int n)).length ≤ i := z
      rw [List.length_map] at z' ⊢
      exact z'⟩⟩
    obtain ⟨v, e1, r1⟩ := (ints_to (K := K) (st := F) (H := H) ns).get e
    refine ⟨⟨_, v, h', e1⟩, fun x H' ⟨eh, y⟩ => ?_⟩
    subst eh
    have e2 := y _ h'
    rw [e1] at e2
    cases e2
    exact ⟨Fr.refl _ _, S, r1⟩
theorem itok_rng {lo : Int} {n : Nat} : ItOk K F0 H0 (Itr lo n) ⟨(List.range n).map fun (i : Nat) => .d (.int (lo + i)), none⟩ := fun i F H fr S _ => by
  refine ⟨fun d e => ?_, fun z => by
    have z' : ((List.range n).map fun (i : Nat) => D.d (.int (lo + i))).length ≤ i := z
    rw [List.length_map, List.length_range] at z'
    exact z'⟩
  have e' : ((List.range n).map fun (i : Nat) => D.d (.int (lo + i)))[i]? = some d := e
  rw [List.getElem?_map] at e'
  cases q : (List.range n)[i]? with
  | none =>
    rw [q] at e'
    cases e'
  | some j =>
    rw [q] at e'
    have hi : i < n := by
      have := (List.getElem?_eq_some_iff.mp q).1
      rw [List.length_range] at this
      exact this
    rw [List.getElem?_range hi] at q
    cases q
    cases e'
    exact ⟨hi, fun x H' ⟨eh, ex⟩ => by
      subst eh
      subst ex
      exact ⟨Fr.refl _ _, S, .d (.int _)⟩⟩
end
section
variable {X : Cx} {tg e : Expr} {te : TEd}
theorem pdi_seq (he : PD X e te) : PDI X tg e (dIter te) := by
  refine ⟨fun pins s σ H R I ⟨en, st, hid, Rd, re, S, h, k⟩ => ?_⟩
  refine thn (he.run pins s σ H (fun x H1 => ∃ a, x = .ref a ∧ ((∃ xs, SqL X.K H1 a xs) ∧ R (Itl X.K a) H1 ∨ (∃ xs, SqT X.K H1 a xs) ∧ R (Itt X.K a) H1)) I ⟨en, st, hid, _, re, S, h, fun v H1 d st1 F1 S1 r q => ?_⟩) fun v s1 ⟨x, H1, I1, r1, a, ex, q1⟩ => ?_
  · split at q
    · obtain ⟨a, vs, rfl, h1, r2⟩ := tup_at r
      exact ⟨a, rfl, .inr ⟨⟨vs, h1⟩, k _ H1 _ st1 F1 S1 (itok_tup h1 r2 S1.sr) (fun a ds z => nomatch z) q⟩⟩
    · cases r with
      | d r =>
        cases r with
        | lst h f r => exact ⟨_, rfl, .inl ⟨⟨_, .inl (.inl h)⟩, k _ H1 _ st1 F1 S1 (itok_lst h f r S1.sr) (fun a ds z => nomatch z) q⟩⟩
    · cases r with
      | own _ =>
        obtain ⟨ds, e1, q⟩ := q
        obtain ⟨vs, h1, r2⟩ := S1.at_ e1
        exact ⟨_, rfl, .inl ⟨⟨vs, .inl (.inl h1)⟩, k _ H1 _ st1 F1 S1 itok_own (fun b es z => by
          cases z
          exact e1) q⟩⟩
    · cases r with
      | scr h f => exact ⟨_, rfl, .inl ⟨⟨_, h⟩, k _ H1 _ st1 F1 S1 (itok_scr (.scr h f) S1.sr) (fun a ds z => nomatch z) q⟩⟩
    · exact q.elim
  · subst ex
    cases r1
    rcases q1 with ⟨⟨xs, hq⟩, q⟩ | ⟨⟨xs, hq⟩, q⟩
    · obtain ⟨its, rv, p, hz⟩ := I1.list hq
      refine wpAny_pyIter_list p.isList ⟨_, [s1.heap.objs.size], _, _, H1, rfl, I1.kept (t' := s1.toks) fun b o e => Heap.get?_push_of_some _ e, turn_list a _, ⟨_, Heap.get?_push_size _ rfl, rfl, rfl⟩, fun b hb => ?_, q⟩
      cases (show b = s1.heap.objs.size by simpa using hb)
      exact I1.fpOk (Nat.le_refl _) (I1.hok.fresh (Nat.le_refl _))
    · obtain ⟨its, rv, p, hz⟩ := I1.tuple hq
      refine wpAny_pyIter_tuple (show s1.heap.IsTuple a its.toArray from p) ⟨_, [s1.heap.objs.size], _, _, H1, rfl, I1.kept (t' := s1.toks) fun b o e => Heap.get?_push_of_some _ e, turn_tuple a _, ⟨_, Heap.get?_push_size _ rfl, rfl, rfl⟩, fun b hb => ?_, q⟩
      cases (show b = s1.heap.objs.size by simpa using hb)
      exact I1.fpOk (Nat.le_refl _) (I1.hok.fresh (Nat.le_refl _))
/-- range(n), range(a, b) -/
def dRng1 (t : TAd) : TId := fun e st R => t e st fun ds st1 => match ds with
  | [.d (.int j)] => -(2 ^ 62) ≤ j ∧ j < 2 ^ 62 ∧ R ⟨(List.range j.toNat).map fun (i : Nat) => .d (.int (0 + i)), none⟩ st1
  | _ => False
def dRng2 (t : TAd) : TId := fun e st R => t e st fun ds st1 => match ds with
  | [.d (.int i), .d (.int j)] => (-(2 ^ 62) ≤ i ∧ i < 2 ^ 62 ∧ -(2 ^ 62) ≤ j ∧ j < 2 ^ 62) ∧ R ⟨(List.range (j - i).toNat).map fun (m : Nat) => .d (.int (i + m)), none⟩ st1
  | _ => False
theorem pdi_rng1 {a : Expr} {t : TAd} {p pos : Pos} (hg : Gl X "range") (hm : X.mg "range" = none) (ha : PDA X [a] t) (hs : starEach [a] X.env = [(false, eval a X.env)] := by rfl) : PDI X tg (.Call (.Name "range" p) [a] [] pos) (dRng1 t) :=
  PI.imp (pi_range1 hg hm ha hs) fun σ H R ⟨e, st, hid, Rd, re, S, h, k⟩ => ⟨e, st, hid, _, re, S, h, fun vs H1 ds st1 F1 S1 r q => by
    split at q
    · obtain ⟨v, rfl, r1⟩ := DvsD.one r
      cases int_at r1
      exact ⟨_, rfl, q.1, q.2.1, k _ H1 _ st1 F1 S1 itok_rng (fun a ds z => nomatch z) q.2.2⟩
    · exact q.elim⟩
theorem pdi_rng2 {a b : Expr} {t : TAd} {p pos : Pos} (hg : Gl X "range") (hm : X.mg "range" = none) (ha : PDA X [a, b] t) (hs : starEach [a, b] X.env = [(false, eval a X.env), (false, eval b X.env)] := by rfl) (hs2 : starEach [b] X.env = [(false, eval b X.env)] := by rfl) : PDI X tg (.Call (.Name "range" p) [a, b] [] pos) (dRng2 t) :=
  PI.imp (pi_range2 hg hm ha hs hs2) fun σ H R ⟨e, st, hid, Rd, re, S, h, k⟩ => ⟨e, st, hid, _, re, S, h, fun vs H1 ds st1 F1 S1 r q => by
    split at q
    · obtain ⟨v, v', rfl, r1, r2⟩ := DvsD.two r
      cases int_at r1
      cases int_at r2
      exact ⟨_, _, rfl, q.1, k _ H1 _ st1 F1 S1 itok_rng (fun a ds z => nomatch z) q.2⟩
    · exact q.elim⟩
end
/-! ### list comprehensions, one name -/
section
variable {K : PySem.W.Frag} {st hid : Sto} {H : Hp} {p : Addr} {ds : List D}
theorem jn_swap (h : st p = none) : jn st (put hid p ds) = jn (put st p ds) hid := by
  funext b
  by_cases e : b = p
  · subst e
    rw [jn_none h, put_same, jn_some put_same]
  · unfold jn
    rw [put_ne e, put_ne e]
theorem Sx.hide (S : Sx K (put st p ds) hid H) (h : st p = none) : Sx K st (put hid p ds) H := by
  refine ⟨fun a n => ?_, by rw [jn_swap h]; exact S.sr, S.tb⟩
  by_cases e : a = p
  · rw [e]
    exact h
  · rw [put_ne e] at n
    have := S.dj a n
    rw [put_ne e] at this
    exact this
theorem Sx.shown (S : Sx K st (put hid p ds) H) (h : hid p = none) : Sx K (put st p ds) hid H ∧ st p = none := by
  have hp : st p = none := S.dj p (by rw [put_same]; exact fun z => nomatch z)
  refine ⟨⟨fun a n => ?_, by rw [← jn_swap hp]; exact S.sr, S.tb⟩, hp⟩
  by_cases e : a = p
  · rw [e] at n
    exact absurd h n
  · rw [put_ne e]
    exact S.dj a (by rw [put_ne e]; exact n)
end
theorem Fr.late {A : Sto} {HA H5 : Hp} {st5 hid : Sto} {p : Addr} {acc acc' : List D} {o : HO} (F : Fr A HA (jn (put st5 p acc) hid) H5) (h : A p ≠ none) : Fr A HA (jn (put st5 p acc') hid) (upd H5 p o) := by
  have ne : ∀ b, A b = none → b ≠ p := fun b e z => h (z ▸ e)
  have off : ∀ b, b ≠ p → jn (put st5 p acc) hid b = none → jn (put st5 p acc') hid b = none := fun b n z => by
    unfold jn at z ⊢
    rw [put_ne n] at z ⊢
    exact z
  refine ⟨fun b o hb hf n => ?_, fun P t f => ?_⟩
  · obtain ⟨z1, z2⟩ := F b o hb hf n
    exact ⟨by rw [upd_ne (ne b hf)]; exact z1, off b (ne b hf) z2⟩
  · obtain ⟨⟨ps, z1, q⟩, z2⟩ := F.tb P t f
    exact ⟨⟨ps, by rw [upd_ne (ne P f)]; exact z1, q⟩, off P (ne P f) z2⟩
def dYes : TTd := fun _ st Q => Q true st
abbrev PDTs (X : Cx) (ifs : List Expr) (t : TTd) : Prop := PTs X ifs (upT X.K t)
theorem PTs.imp {X : Cx} {e : List Expr} {t t' : TT} (h : PTs X e t) (i : ∀ σ H Q, t' σ H Q → t σ H Q) : PTs X e t' := ⟨fun pins s σ H Q I w => h.run pins s σ H Q I (i σ H Q w)⟩
theorem pdts_nil {X : Cx} : PDTs X [] dYes := PTs.imp pts_nil fun σ H Q ⟨e, st, hid, Qd, re, S, h, k⟩ => k true H st (Fr.refl _ _) S h
theorem pdts_one {X : Cx} {c : Expr} {t : TTd} (h : PDT X c t) : PDTs X [c] t := pts_one h
def mkV (ds : List D) (st : Sto) (Q : Kd) : Prop := ∃ xs, pures ds = some xs ∧ Q (.d (.list xs)) st
def dLcM (M : List D → Sto → Kd → Prop) (ti : TId) (i : Nat) (tt : TTd) (te : TEd) : TEd := fun e st Q => ti e st fun it st1 => ∃ W : Nat → List D → Sto → Prop, W 0 [] st1 ∧ ∀ j acc st2, W j acc st2 → it.at st2 ∧ (it.xs.length ≤ j → M acc st2 Q) ∧
  ∀ d, it.xs[j]? = some d → tt (e.set i (some d)) st2 fun b st3 => if b = true then te (e.set i (some d)) st3 fun y st4 => acc.length < sizeLine ∧ W (j + 1) (acc ++ [y]) st4 else W (j + 1) acc st3
abbrev dLc := dLcM mkL
abbrev dLcV := dLcM mkV
theorem set_none_set {α : Type} {σ : List (Option α)} {i : Nat} {x : Option α} : (σ.set i none).set i x = σ.set i x := List.set_set ..
theorem pd_lcM {X : Cx} {M : List D → Sto → Kd → Prop} (hM : ∀ ds st Q, M ds st Q → mkL ds st Q) {elt iter : Expr} {ifs : List Expr} {scope : Scope} {y : Str} {i : Nat} {py pos : Pos} {ti : TId} {tt : TTd} {te : TEd} (hc : X.calm = true) (hN : X.N.Nodup) (hi : PDI X (.Name y py) iter ti) (ok : BlkOk X.N X.env.scope scope [(y, i)])
    (hg : ∀ (s : Shared) (H : Hp) (C : Addr) (cl : List (Str × Addr)) (fp : List Addr), PG (X.blk s H scope (compEnvC scope cl C X.env) fp) (.Name y py) (gName i))
    (ht : ∀ (s : Shared) (H : Hp) (C : Addr) (cl : List (Str × Addr)) (fp : List Addr), PDTs (X.blk s H scope (compEnvC scope cl C X.env) fp) ifs tt)
    (he : ∀ (s : Shared) (H : Hp) (C : Addr) (cl : List (Str × Addr)) (fp : List Addr), PD (X.blk s H scope (compEnvC scope cl C X.env) fp) elt te) (hs : ∀ x, foldedSetIterable iter X.env x = pure x := by intro _; rfl) :
    PD X (.ListComp elt [⟨.Name y py, iter, ifs, 0⟩] scope pos) (dLcM M ti i tt te) :=
  PE.imp (pe_lc (own := [(y, i)]) (wi := upI X.K ti) (g := gName i) (tt := upT X.K tt) (te := up X.K te) hc hN hi ok hg ht he hs) fun σ H Q ⟨e, st, hid, Qd, re, S, h, k⟩ => by
    refine ⟨e, st, hid, _, re, S, h, fun J H1 it st1 F1 S1 ok1 at1 ⟨W, w0, turn⟩ p hp => ?_⟩
    have n1 := jn_free (S1.sr.free0 hp)
    refine ⟨fun j m H2 => m = it.xs.length - j ∧ ∃ acc st2, W j acc st2 ∧ Sx X.K (put st2 p acc) hid H2 ∧ st2 p = none ∧ Fr (jn (put st1 p []) hid) (upd H1 p (.lst [])) (jn (put st2 p acc) hid) H2, ⟨it.xs.length, by simp, [], st1, w0, S1.own hp .nil, n1.1, Fr.refl _ _⟩, ?_⟩
    rintro j m H2 ⟨rfl, acc, st2, w2, S2, n2, F2⟩
    obtain ⟨at2, done, go⟩ := turn j acc st2 w2
    have Sh := S2.hide n2
    have eqF : jn st2 (put hid p acc) = jn (put st2 p acc) hid := jn_swap n2
    -- from the state ahead of the new list
    have F12 : Fr (jn st1 hid) H1 (jn (put st2 p acc) hid) H2 := Fr.trans (fx_own hp) F2
    have F02 : Fr (jn st hid) H (jn (put st2 p acc) hid) H2 := Fr.trans F1 F12
    have atF : it.at (jn (put st2 p acc) hid) := fun a ds z => by
      have e1 := at2 a ds z
      have ne : a ≠ p := fun z' => by
        rw [z', n2] at e1
        cases e1
      exact jn_some (by rw [put_ne ne]; exact e1)
    have It := ok1 j _ H2 F12 S2.sr atF
    by_cases hj : it.xs.length ≤ j
    · refine .inl ⟨It.2 hj, ?_⟩
      obtain ⟨vs, hv, rv⟩ := S2.at_ put_same
      rcases hM _ _ _ (done hj) with ⟨xs, ep, q⟩ | q
      · have ea := pures_eq ep
        subst ea
        obtain ⟨Sc, Fc, fc⟩ := S2.frz put_same
        have ec : cut (put st2 p (xs.map D.d)) p = st2 := by
          funext b
          by_cases eb : b = p
          · rw [eb, cut_same, n2]
          · rw [cut_ne eb, put_ne eb]
        rw [ec] at Sc Fc fc
        exact k _ H2 _ st2 (Fr.trans F02 Fc) Sc (.d (.lst hv fc ((Dvs.of rv).mono Fc S2.sr))) q
      · exact k _ H2 _ _ F02 S2 (.own p) (q p n2)
    · have hlt : j < it.xs.length := Nat.lt_of_not_le hj
      have ed : it.xs[j]? = some it.xs[j] := List.getElem?_eq_getElem hlt
      obtain ⟨g1, g2⟩ := It.1 _ ed
      refine .inr ⟨g1, fun H' => ∃ acc' st', W (j + 1) acc' st' ∧ Sx X.K (put st' p acc') hid H' ∧ st' p = none ∧ Fr (jn (put st1 p []) hid) (upd H1 p (.lst [])) (jn (put st' p acc') hid) H', fun H' ⟨acc', st', h1, h2, h3, h4⟩ => ⟨it.xs.length - (j + 1), by omega, rfl, acc', st', h1, h2, h3, h4⟩, fun x H3 hy => ?_⟩
      obtain ⟨F23, S3r, rx⟩ := g2 x H3 hy
      have S3 : Sx X.K (put st2 p acc) hid H3 := S2.go F23 S3r
      have S3h := S3.hide n2
      have F03 := Fr.trans F02 F23
      have reX : RE X.K (jn st2 (put hid p acc)) H3 (((wipe σ [i]).set i (some x))) (e.set i (some it.xs[j])) := by
        rw [eqF]
        show RE X.K _ H3 ((σ.set i none).set i (some x)) _
        rw [set_none_set]
        exact (re.mono F03 S.sr).set rx
      show wipe ((wipe σ [i]).set i (some x)) [i] = wipe σ [i] ∧ upT X.K tt ((wipe σ [i]).set i (some x)) H3 _
      refine ⟨by
        show (((σ.set i none).set i (some x)).set i none) = σ.set i none
        rw [List.set_set, List.set_set], ?_⟩
      refine ⟨_, st2, put hid p acc, _, reX, S3h, go _ ed, fun b H4 st4 F4 S4 q4 => ?_⟩
      have hn : hid p = none := n1.2
      have F3X : Fr (jn (put st1 p []) hid) (upd H1 p (.lst [])) (jn st2 (put hid p acc)) H3 := by
        rw [eqF]
        exact Fr.trans F2 F23
      cases b with
      | false =>
        rw [if_neg Bool.false_ne_true] at q4
        refine iteF ?_
        obtain ⟨S4', n4⟩ := S4.shown hn
        refine ⟨acc, st4, q4, S4', n4, ?_⟩
        rw [← jn_swap n4]
        exact Fr.trans F3X F4
      | true =>
        rw [if_pos rfl] at q4
        refine iteT ?_
        refine ⟨_, st4, put hid p acc, _, reX.mono F4 S3h.sr, S4, q4, fun v H5 d st5 F5 S5 r5 ⟨hz, w5⟩ => ?_⟩
        obtain ⟨S5', n5⟩ := S5.shown hn
        obtain ⟨vs, hv, rv⟩ := S5'.at_ put_same
        rw [jn_swap n5] at r5
        refine ⟨vs, hv, by rw [Paired.length rv]; exact hz, acc ++ [d], st5, w5, ?_, n5, ?_⟩
        · have := S5'.store (es := acc ++ [d]) put_same (DvsD.snoc rv r5)
          have ee : put (put st5 p acc) p (acc ++ [d]) = put st5 p (acc ++ [d]) := by
            funext b
            by_cases eb : b = p
            · rw [eb, put_same, put_same]
            · rw [put_ne eb, put_ne eb, put_ne eb]
          rw [ee] at this
          exact this
        · have Fa : Fr (jn (put st1 p []) hid) (upd H1 p (.lst [])) (jn (put st5 p acc) hid) H5 := by
            rw [← jn_swap n5]
            exact Fr.trans F3X (Fr.trans F4 F5)
          exact Fr.late Fa (by rw [jn_some put_same]; exact fun z => nomatch z)
theorem hm_own : ∀ ds st Q, mkL ds st Q → mkL ds st Q := fun _ _ _ h => h
theorem hm_val : ∀ ds st Q, mkV ds st Q → mkL ds st Q := fun _ _ _ h => .inl h
end DL
namespace DL
open PySem PySem.Spec PyProof.Rows L2
variable [Tabs]
/-! ### targets -/
abbrev TGd := D → Ed → Sto → (Ed → Sto → Prop) → Prop
abbrev TGsd := List D → Ed → Sto → (Ed → Sto → Prop) → Prop
def upG (K : PySem.W.Frag) (t : TGd) : TG := fun v σ H Q => ∃ d e st hid Qd, DvD K (jn st hid) H v d ∧ RE K (jn st hid) H σ e ∧ Sx K st hid H ∧ t d e st Qd ∧ GoS K st hid H Qd Q
def upGs (K : PySem.W.Frag) (t : TGsd) : TGs := fun vs σ H Q => ∃ ds e st hid Qd, DvsD K (jn st hid) H vs ds ∧ RE K (jn st hid) H σ e ∧ Sx K st hid H ∧ t ds e st Qd ∧ GoS K st hid H Qd Q
abbrev PDG (X : Cx) (tg : Expr) (t : TGd) : Prop := PG X tg (upG X.K t)
abbrev PDGs (X : Cx) (tg : List Expr) (t : TGsd) : Prop := PGs X tg (upGs X.K t)
theorem PG.imp {X : Cx} {tg : Expr} {t t' : TG} (h : PG X tg t) (i : ∀ v σ H Q, t' v σ H Q → t v σ H Q) : PG X tg t' := ⟨fun pins s σ H v u Q I r w => h.run pins s σ H v u Q I r (i v σ H Q w)⟩
theorem PGs.imp {X : Cx} {tg : List Expr} {t t' : TGs} (h : PGs X tg t) (i : ∀ v σ H Q, t' v σ H Q → t v σ H Q) : PGs X tg t' := ⟨fun pins s σ H v u Q I r w => h.run pins s σ H v u Q I r (i v σ H Q w)⟩
theorem GoS.now {K : PySem.W.Frag} {st hid : Sto} {H : Hp} {Qd : Ed → Sto → Prop} {Q : L2.St → Hp → Prop} (g : GoS K st hid H Qd Q) {σ : L2.St} {e : Ed} (S : Sx K st hid H) (h : RE K (jn st hid) H σ e) (q : Qd e st) : Q σ H := g σ H e st (Fr.refl _ _) S h q
section
variable {X : Cx} {pos : Pos}
def hName (i : Nat) : TGd := fun d e st Q => Q (e.set i (some d)) st
theorem pdg_name {i : Nat} {x : Str} (hN : X.N.Nodup) (hi : X.N[i]? = some x) (hx : Loc X.env.scope x) (hf : X.fn x = true ∨ X.env.scope.names.lookup x = some .local := by first | exact .inl rfl | exact .inr rfl | assumption) : PDG X (.Name x pos) (hName i) :=
  PG.imp (pg_name hN hi hx hf) fun v σ H Q ⟨d, e, st, hid, Qd, r, re, S, q, k⟩ => GoS.now k S (re.set r) q
def hNil : TGsd := fun ds e st Q => ds = [] ∧ Q e st
def hCons (t : TGd) (u : TGsd) : TGsd := fun ds e st Q => match ds with
  | d :: r => t d e st fun e1 st1 => u r e1 st1 Q
  | [] => False
theorem pdgs_nil : PDGs X [] hNil := PGs.imp pgs_nil fun v σ H Q ⟨ds, e, st, hid, Qd, r, re, S, q, k⟩ => by
  obtain ⟨rfl, q⟩ := q
  cases r
  exact ⟨rfl, GoS.now k S re q⟩
theorem pdgs_cons {e : Expr} {es : List Expr} {t : TGd} {u : TGsd} (h1 : PDG X e t) (h2 : PDGs X es u)
    (hs : (assignEach (e :: es) X.env).map (·.2) = assign e X.env :: (assignEach es X.env).map (·.2) := by rfl) : PDGs X (e :: es) (hCons t u) :=
  PGs.imp (pgs_cons h1 h2 hs) fun v σ H Q ⟨ds, e, st, hid, Qd, r, re, S, q, k⟩ => by
    cases r with
    | nil => exact q.elim
    | cons h t =>
      exact ⟨_, _, rfl, _, e, st, hid, _, h, re, S, q, fun σ1 H1 e1 st1 F1 S1 re1 q1 => ⟨_, e1, st1, hid, Qd, DvsD.mono F1 S.sr t, re1, S1, q1, GoS.mono k F1⟩⟩
/-- (a, b, ..) = a tuple of that length -/
def hTup (n : Nat) (t : TGsd) : TGd := fun d e st Q => match d with
  | .d (.tuple xs) => xs.length = n ∧ t (xs.map D.d) e st Q
  | _ => False
theorem pdg_tup {es : List Expr} {k : Nat} {t : TGsd} {n : Nat} (hc : X.calm = true) (h : PDGs X es t)
    (hn : (assignEach es X.env).length = n := by rfl) (hst : (assignEach es X.env).findIdx? (·.1) = none := by rfl) : PDG X (.Tuple es k pos) (hTup n t) :=
  PG.imp (pg_tup hc h hn hst) fun v σ H Q ⟨d, e, st, hid, Qd, r, re, S, q, k⟩ => by
    unfold hTup at q
    split at q
    · obtain ⟨a, vs, rfl, h1, r1⟩ := tup_at r
      exact ⟨a, vs, rfl, h1, by rw [r1.length]; exact q.1, _, e, st, hid, Qd, Dvs.to r1, re, S, q.2, k⟩
    · exact q.elim
/-- xs[i] = v of a list that may change -/
def hSub (to ti : TEd) : TGd := fun d e st Q => to e st fun o st1 => ti e st1 fun i st2 => match o, i with
  | .own a, .d (.int i) => ∃ ds j, st2 a = some ds ∧ ixN ds.length i = some j ∧ Q e (put st2 a (ds.set j d))
  | _, _ => False
theorem pdg_sub {o i : Expr} {to ti : TEd} (ho : PD X o to) (hi : PD X i ti)
    (ha : ∀ v, assign (.Subscript o i pos) X.env v = (do
      let ov ← holding [v] (eval o X.env); let iv ← holding [v, ov] (eval i X.env)
      standAt pos; holding [v, ov, iv] (setItem ov iv v); release [v, ov, iv] []) := by intro _; rfl) : PDG X (.Subscript o i pos) (hSub to ti) :=
  PG.imp (pg_sub ho hi set_list ha) fun v σ H Q ⟨d, e, st, hid, Qd, r, re, S, h, k⟩ => ⟨e, st, hid, _, re, S, h, fun ov H1 od st1 F1 S1 r1 h1 => ⟨e, st1, hid, _, re.mono F1 S.sr, S1, h1, fun iv H2 id st2 F2 S2 r2 h2 => by
    split at h2
    · obtain ⟨ds, j, e1, e2, q⟩ := h2
      cases int_at r2
      cases r1 with
      | own _ =>
        obtain ⟨vs, hv, rv⟩ := S2.at_ e1
        have F := Fr.trans F1 F2
        refine ⟨_, vs, _, j, rfl, rfl, hv, by rw [Paired.length rv]; exact e2, ?_⟩
        have F3 : FrX st2 hid H2 (put st2 _ (ds.set j d)) (upd H2 _ (.lst (vs.set j v))) := fx_put e1
        exact k _ _ _ _ (Fr.trans F F3) (S2.store e1 (DvsD.set j rv (r.mono F S.sr))) (re.mono (Fr.trans F F3) S.sr) q
    · exact h2.elim⟩⟩
end
/-! ### statements -/
section
variable {X : Cx} {st : Stmt} {rest : List Stmt} {t u : TSd} {e : Expr} {te : TEd} {pos : Pos}
theorem PDS.go {X : Cx} {s : Stmt} {T : TS} {t : TSd} (h : PS X s T) (i : ∀ D σ H, upS X.K t D σ H → T D σ H) : PDS X s t := PS.imp h i
def dNext : TSd := fun E e st => E.nx e st
def dSeq (t u : TSd) : TSd := fun E e st => t { E with nx := u E } e st
theorem pss_dnil : PDSs X [] dNext := PSs.imp pss_nil fun D σ H ⟨e, st, hid, E, re, S, h, k1, k2, k3, k4⟩ => GoS.now k1 S re h
theorem seq_imp {K : PySem.W.Frag} {D : Ends} {σ : L2.St} {H : Hp} (w : upS K (dSeq t u) D σ H) : tSeq (upS K t) (upS K u) D σ H := by
  obtain ⟨e, st, hid, E, re, S, h, k1, k2, k3, k4⟩ := w
  exact ⟨e, st, hid, { E with nx := u E }, re, S, h, fun σ' H' e' st' F' S' re' q => ⟨e', st', hid, E, re', S', q, GoS.mono k1 F', Go.mono k2 F', GoS.mono k3 F', GoS.mono k4 F'⟩, k2, k3, k4⟩
theorem pss_dcons (h1 : PDS X st t) (h2 : PDSs X rest u) : PDSs X (st :: rest) (dSeq t u) := PSs.imp (pss_cons h1 h2) fun _ _ _ => seq_imp
theorem pss_done (h1 : PDS X st t) : PDSs X [st] t := pss_one h1
def dBreak : TSd := fun E e st => E.bk e st
def dCont : TSd := fun E e st => E.ct e st
theorem psd_break : PDS X (.Break pos) dBreak := PS.imp ps_break fun D σ H ⟨e, st, hid, E, re, S, h, k1, k2, k3, k4⟩ => GoS.now k3 S re h
theorem psd_cont : PDS X (.Continue pos) dCont := PS.imp ps_continue fun D σ H ⟨e, st, hid, E, re, S, h, k1, k2, k3, k4⟩ => GoS.now k4 S re h
theorem psd_pass : PDS X (.Pass pos) dNext := PS.imp ps_pass fun D σ H ⟨e, st, hid, E, re, S, h, k1, k2, k3, k4⟩ => GoS.now k1 S re h
def dNever : TSd := fun _ _ _ => False
theorem pss_dnever {sts : List Stmt} : PDSs X sts dNever := PSs.imp pss_never fun D σ H ⟨e, st, hid, E, re, S, h, _⟩ => h.elim
theorem psd_never : PDS X st dNever := PS.imp ps_never fun D σ H ⟨e, st, hid, E, re, S, h, _⟩ => h.elim
def dDrop (te : TEd) : TSd := fun E e st => te e st fun _ st1 => E.nx e st1
theorem psd_expr (he : PD X e te) (hs : swapsWith e none pos.line X.env = pure false := by rfl) : PDS X (.Expr e pos) (dDrop te) :=
  PS.imp (ps_expr he hs) fun D σ H ⟨e, st, hid, E, re, S, h, k1, k2, k3, k4⟩ => ⟨e, st, hid, _, re, S, h, fun v H1 d st1 F1 S1 r q => k1 σ H1 e st1 F1 S1 (re.mono F1 S.sr) q⟩
/-- a list that may change is given as a value -/
def frz (Q : Kd) : Kd := fun d st => Q d st ∨ ∃ a xs, d = .own a ∧ st a = some (xs.map D.d) ∧ Q (.d (.list xs)) (cut st a)
theorem frz_go {K : PySem.W.Frag} {st hid : Sto} {H : Hp} {Qd : Kd} {Q : VK} (k : Go K st hid H Qd Q) : Go K st hid H (frz Qd) Q := fun v H1 d st1 F1 S1 r q => by
  rcases q with q | ⟨a, xs, rfl, e1, q⟩
  · exact k v H1 d st1 F1 S1 r q
  · cases r with
    | own _ =>
      obtain ⟨vs, hv, rv⟩ := S1.at_ e1
      obtain ⟨Sc, Fc, fc⟩ := S1.frz e1
      exact k _ H1 _ _ (Fr.trans F1 Fc) Sc (.d (.lst hv fc ((Dvs.of rv).mono Fc S1.sr))) q
def dRet (te : TEd) : TSd := fun E e st => te e st (frz E.rt)
theorem psd_ret (he : PD X e te) : PDS X (.Return (some e) pos) (dRet te) :=
  PS.imp (ps_ret he) fun D σ H ⟨e, st, hid, E, re, S, h, k1, k2, k3, k4⟩ => ⟨e, st, hid, _, re, S, h, frz_go k2⟩
def dRetN : TSd := fun E _ st => E.rt (.d .none) st
theorem psd_retN : PDS X (.Return none pos) dRetN := PS.imp ps_retN fun D σ H ⟨e, st, hid, E, re, S, h, k1, k2, k3, k4⟩ => Go.now k2 S (.d .non) h
def dIfS (c : TTd) (t u : TSd) : TSd := fun E e st => c e st fun b st1 => if b = true then t E e st1 else u E e st1
theorem psd_if {c : Expr} {a b : List Stmt} {tc : TTd} (hc : PDT X c tc) (ha : PDSs X a t) (hb : PDSs X b u) : PDS X (.If c a b pos) (dIfS tc t u) :=
  PS.imp (ps_if hc ha hb) fun D σ H ⟨e, st, hid, E, re, S, h, k1, k2, k3, k4⟩ => ⟨e, st, hid, _, re, S, h, fun b H1 st1 F1 S1 q => by
    cases b with
    | true =>
      rw [if_pos rfl] at q
      exact iteT ⟨e, st1, hid, E, re.mono F1 S.sr, S1, q, GoS.mono k1 F1, Go.mono k2 F1, GoS.mono k3 F1, GoS.mono k4 F1⟩
    | false =>
      rw [if_neg Bool.false_ne_true] at q
      exact iteF ⟨e, st1, hid, E, re.mono F1 S.sr, S1, q, GoS.mono k1 F1, Go.mono k2 F1, GoS.mono k3 F1, GoS.mono k4 F1⟩⟩
def dAsg (te : TEd) (g : TGd) : TSd := fun E e st => te e st (frz fun d st1 => g d e st1 E.nx)
theorem asg_imp {K : PySem.W.Frag} {g : TGd} {D : Ends} {σ : L2.St} {H : Hp} (w : upS K (dAsg te g) D σ H) : tAsg (up K te) (upG K g) D σ H := by
  obtain ⟨e, st, hid, E, re, S, h, k1, k2, k3, k4⟩ := w
  exact ⟨e, st, hid, _, re, S, h, frz_go fun v H1 d st1 F1 S1 r q => ⟨d, e, st1, hid, _, r, re.mono F1 S.sr, S1, q, GoS.mono k1 F1⟩⟩
theorem psd_asg {tg : Expr} {g : TGd} (he : PD X e te) (hg : PDG X tg g) (hs : swapsWithSole [tg] e pos.line X.env = pure false := by rfl) (hw : swappedStores [tg] e X.env = pure none := by rfl)
    (h1 : (assignEach [tg] X.env).map (·.2) = [assign tg X.env] := by rfl) : PDS X (.Assign [tg] e pos) (dAsg te g) := PS.imp (ps_asg he hg hs hw h1) fun _ _ _ => asg_imp
theorem psd_set {i : Nat} {x : Str} {pos' : Pos} (hN : X.N.Nodup) (hi : X.N[i]? = some x) (hx : Loc X.env.scope x) (he : PD X e te) (hs : swapsWith e (some (.Name x pos')) pos.line X.env = pure false := by rfl) (hf : X.fn x = true ∨ X.env.scope.names.lookup x = some .local := by first | exact .inl rfl | exact .inr rfl | assumption) :
    PDS X (.Assign [.Name x pos'] e pos) (dAsg te (hName i)) := PS.imp (ps_set hN hi hx he hs hf) fun D σ H ⟨e, st, hid, E, re, S, h, k1, k2, k3, k4⟩ => ⟨e, st, hid, _, re, S, h, frz_go fun v H1 d st1 F1 S1 r q => k1 _ H1 _ st1 F1 S1 ((re.mono F1 S.sr).set r) q⟩
/-- a, b = x, y with plain local names -/
def dPar (i j : Nat) (ta : TAd) : TSd := fun E e st => ta e st fun ds st1 => match ds with
  | [d1, d2] => E.nx ((e.set i (some d1)).set j (some d2)) st1
  | _ => False
theorem psd_par {i j : Nat} {x y : Str} {a b : Expr} {ta : TAd} {px py pt : Pos} {kt k2 pt2} (hc : X.calm = true) (hN : X.N.Nodup) (hi : X.N[i]? = some x) (hj : X.N[j]? = some y) (hij : i ≠ j)
    (hx : X.env.scope.names.lookup x = some .local) (hy : X.env.scope.names.lookup y = some .local) (ha : PDA X [a, b] ta)
    (hw : swappedStores [.Tuple [.Name x px, .Name y py] kt pt] (.Tuple [a, b] k2 pt2) X.env = pure (some [x, y]))
    (hs : swapsWithSole [.Tuple [.Name x px, .Name y py] kt pt] (.Tuple [a, b] k2 pt2) pos.line X.env = pure false := by rfl) :
    PDS X (.Assign [.Tuple [.Name x px, .Name y py] kt pt] (.Tuple [a, b] k2 pt2) pos) (dPar i j ta) :=
  PS.imp (ps_par hc hN hi hj hij hx hy ha hw hs) fun D σ H ⟨e, st, hid, E, re, S, h, k1, k2, k3, k4⟩ => ⟨e, st, hid, _, re, S, h, fun vs H1 ds st1 F1 S1 r q => by
    split at q
    · obtain ⟨v, v', rfl, r1, r2⟩ := DvsD.two r
      exact ⟨v, v', rfl, k1 _ H1 _ st1 F1 S1 (((re.mono F1 S.sr).set r1).set r2) q⟩
    · exact q.elim⟩
def dPar3 (i j l : Nat) (ta : TAd) : TSd := fun E e st => ta e st fun ds st1 => match ds with
  | [d1, d2, d3] => E.nx (((e.set i (some d1)).set j (some d2)).set l (some d3)) st1
  | _ => False
theorem psd_par3 {i j l : Nat} {x y z : Str} {a b c : Expr} {ta : TAd} {px py pz pt : Pos} {kt k2 pt2} (hc : X.calm = true) (hN : X.N.Nodup) (hi : X.N[i]? = some x) (hj : X.N[j]? = some y) (hl : X.N[l]? = some z) (hij : i ≠ j) (hil : i ≠ l) (hjl : j ≠ l)
    (hx : X.env.scope.names.lookup x = some .local) (hy : X.env.scope.names.lookup y = some .local) (hz : X.env.scope.names.lookup z = some .local) (ha : PDA X [a, b, c] ta)
    (hw : swappedStores [.Tuple [.Name x px, .Name y py, .Name z pz] kt pt] (.Tuple [a, b, c] k2 pt2) X.env = pure (some [x, y, z]))
    (hs : swapsWithSole [.Tuple [.Name x px, .Name y py, .Name z pz] kt pt] (.Tuple [a, b, c] k2 pt2) pos.line X.env = pure false := by rfl) :
    PDS X (.Assign [.Tuple [.Name x px, .Name y py, .Name z pz] kt pt] (.Tuple [a, b, c] k2 pt2) pos) (dPar3 i j l ta) :=
  PS.imp (ps_par3 hc hN hi hj hl hij hil hjl hx hy hz ha hw hs) fun D σ H ⟨e, st, hid, E, re, S, h, k1, k2, k3, k4⟩ => ⟨e, st, hid, _, re, S, h, fun vs H1 ds st1 F1 S1 r q => by
    split at q
    · cases r with
      | cons r1 t =>
        obtain ⟨v, v', rfl, r2, r3⟩ := DvsD.two t
        exact ⟨_, v, v', rfl, k1 _ H1 _ st1 F1 S1 ((((re.mono F1 S.sr).set r1).set r2).set r3) q⟩
    · exact q.elim⟩
/-- xs.append(e) -/
def dApp (to te : TEd) : TEd := fun e st Q => to e st fun o st1 => match o with
  | .own a => (st1 a).isSome = true ∧ te e st1 fun d st2 => ∃ ds, st2 a = some ds ∧ ds.length < sizeLine ∧ Q (.d .none) (put st2 a (ds ++ [d]))
  | _ => False
theorem pd_append {o : Expr} {to : TEd} {apos cpos : Pos} (ho : PD X o to) (ha : PD X e te)
    (hbase : attributeBase o "append" X.env (eval o X.env) = eval o X.env := by rfl) (hline : (apos.endLine == cpos.line) = true := by rfl)
    (hs0 : starEach [e] X.env = (false, eval e X.env) :: starEach [] X.env := by rfl)
    (hfew : ((backTo cpos (starEach [e] X.env)).all (fun x => !x.1) && (backToKw cpos (keywordEach [] X.env)).all (fun x => x.1.isSome) && decide ([e].length + ([] : List Keyword).length + (if ([] : List Keyword).isEmpty then 0 else 1) < 30)) = true := by rfl)
    (hplain : (backTo cpos (starEach [] X.env)).any (·.1) = false := by rfl) : PD X (.Call (.Attribute o "append" apos) [e] [] cpos) (dApp to te) := by
  refine PE.imp (pe_bm PySem.F.plainAttrs_list PySem.F.slot_list_append PySem.F.type_list_append mt_append ho (pa_cons ha pa_nil hs0) hbase hfew hline hs0 hplain) fun σ H Q ⟨e, st, hid, Qd, re, S, h, k⟩ => ⟨e, st, hid, _, re, S, h, fun v H1 d st1 F1 S1 r q => ?_⟩
  cases r with
  | d h => exact q.elim
  | scr h f => exact q.elim
  | own a =>
    obtain ⟨h0, q⟩ := q
    obtain ⟨ds, e1⟩ := Option.isSome_iff_exists.mp h0
    obtain ⟨vs, hv, rv⟩ := S1.at_ e1
    refine ⟨.inl ⟨rfl, vs, .inl (.inl hv)⟩, e, st1, hid, _, re.mono F1 S.sr, S1, q, fun y H2 dy st2 F2 S2 ry ⟨es, e2, hz, q2⟩ => ?_⟩
    obtain ⟨ws, hw, rw'⟩ := S2.at_ e2
    have F3 : FrX st2 hid H2 (put st2 a (es ++ [dy])) (upd H2 a (.lst (ws ++ [y]))) := fx_put e2
    exact ⟨a, ws, y, rfl, rfl, hw, by rw [Paired.length rw']; exact hz, k _ _ _ _ (Fr.trans F1 (Fr.trans F2 F3)) (S2.store e2 (DvsD.snoc rw' ry)) (.d .non) q2⟩
/-- while: the word and its measure -/
def dWhile (c : TTd) (tb : TSd) : TSd := fun E e st => ∃ W : Nat → Ed → Sto → Prop, (∃ m, W m e st) ∧ ∀ m e st, W m e st → c e st fun b st1 => if b = true then tb { E with nx := fun e' st' => ∃ m', m' < m ∧ W m' e' st', ct := fun e' st' => ∃ m', m' < m ∧ W m' e' st', bk := E.nx } e st1 else E.nx e st1
theorem psd_while {c : Expr} {body : List Stmt} {tc : TTd} {tb : TSd} (hp : PassesOwn (model X.prog X.w) X.A X.env X.xe) (hc : PDT X c tc) (hb : PDSs X body tb) : PDS X (.While c body [] pos) (dWhile tc tb) :=
  PS.imp (ps_while hp hc hb) fun D σ H ⟨e, st, hid, E, re, S, ⟨W, ⟨m0, w0⟩, turn⟩, k1, k2, k3, k4⟩ => by
    refine ⟨fun m σ' H' => ∃ e' st', W m e' st' ∧ FrX st hid H st' H' ∧ Sx X.K st' hid H' ∧ RE X.K (jn st' hid) H' σ' e', ⟨m0, e, st, w0, Fr.refl _ _, S, re⟩, fun m σ1 H1 ⟨e1, st1, w1, F1, S1, re1⟩ => ?_⟩
    refine ⟨e1, st1, hid, _, re1, S1, turn m e1 st1 w1, fun b H2 st2 F2 S2 q => ?_⟩
    have F := Fr.trans F1 F2
    cases b with
    | false =>
      rw [if_neg Bool.false_ne_true] at q
      exact iteF (k1 _ H2 _ st2 F S2 (re1.mono F2 S1.sr) q)
    | true =>
      rw [if_pos rfl] at q
      refine iteT ⟨fun σ' H' => ∃ m', m' < m ∧ ∃ e' st', W m' e' st' ∧ FrX st hid H st' H' ∧ Sx X.K st' hid H' ∧ RE X.K (jn st' hid) H' σ' e', fun σ' H' ⟨m', h1, h2⟩ => ⟨m', h1, h2⟩, e1, st2, hid, _, re1.mono F2 S1.sr, S2, q, ?_, Go.mono k2 F, GoS.mono k1 F, ?_⟩
      · exact fun σ3 H3 e3 st3 F3 S3 re3 ⟨m', h1, h2⟩ => ⟨m', h1, e3, st3, h2, Fr.trans F F3, S3, re3⟩
      · exact fun σ3 H3 e3 st3 F3 S3 re3 ⟨m', h1, h2⟩ => ⟨m', h1, e3, st3, h2, Fr.trans F F3, S3, re3⟩
/-- for: the word by the turn -/
def dFor (ti : TId) (g : TGd) (tb : TSd) : TSd := fun E e st => ti e st fun it st1 => ∃ W : Nat → Ed → Sto → Prop, W 0 e st1 ∧ ∀ i e st, W i e st → it.at st ∧ (it.xs.length ≤ i → E.nx e st) ∧
  ∀ d, it.xs[i]? = some d → g d e st fun e2 st2 => tb { E with nx := W (i + 1), ct := W (i + 1), bk := E.nx } e2 st2
theorem psd_for {tg iter : Expr} {body : List Stmt} {ti : TId} {g : TGd} {tb : TSd} (hp : PassesOwn (model X.prog X.w) X.A X.env X.xe) (hc : X.calm = true) (hi : PDI X tg iter ti) (hg : PDG X tg g) (hb : PDSs X body tb)
    (hs : ∀ x, foldedSetIterable iter X.env x = pure x := by intro _; rfl) : PDS X (.For tg iter body [] pos) (dFor ti g tb) :=
  PS.imp (ps_for hp hc hi hg hb hs) fun D σ H ⟨e, st, hid, E, re, S, h, k1, k2, k3, k4⟩ => by
    refine ⟨e, st, hid, _, re, S, h, fun J H1 it st1 F1 S1 ok1 at1 ⟨W, w0, turn⟩ => ?_⟩
    refine ⟨fun i m σ' H' => m = it.xs.length - i ∧ ∃ e' st', W i e' st' ∧ FrX st1 hid H1 st' H' ∧ Sx X.K st' hid H' ∧ RE X.K (jn st' hid) H' σ' e', ⟨it.xs.length, by simp, e, st1, w0, Fr.refl _ _, S1, re.mono F1 S.sr⟩, ?_⟩
    rintro i m σ2 H2 ⟨rfl, e2, st2, w2, F2, S2, re2⟩
    obtain ⟨at2, done, go⟩ := turn i e2 st2 w2
    have It := ok1 i _ H2 F2 S2.sr fun a ds z => jn_some (at2 a ds z)
    by_cases hj : it.xs.length ≤ i
    · exact .inl ⟨It.2 hj, k1 _ H2 _ st2 (Fr.trans F1 F2) S2 re2 (done hj)⟩
    · have hlt : i < it.xs.length := Nat.lt_of_not_le hj
      have ed : it.xs[i]? = some it.xs[i] := List.getElem?_eq_getElem hlt
      obtain ⟨g1, g2⟩ := It.1 _ ed
      refine .inr ⟨g1, fun σ' H' => ∃ e' st', W (i + 1) e' st' ∧ FrX st1 hid H1 st' H' ∧ Sx X.K st' hid H' ∧ RE X.K (jn st' hid) H' σ' e', fun σ' H' q => ⟨it.xs.length - (i + 1), by omega, rfl, q⟩, fun x H3 hy => ?_⟩
      obtain ⟨F3, S3r, rx⟩ := g2 x H3 hy
      have S3 : Sx X.K st2 hid H3 := S2.go F3 S3r
      refine ⟨_, e2, st2, hid, _, rx, re2.mono F3 S2.sr, S3, go _ ed, fun σ4 H4 e4 st4 F4 S4 re4 q4 => ?_⟩
      have F14 : FrX st1 hid H1 st4 H4 := Fr.trans F2 (Fr.trans F3 F4)
      have F04 := Fr.trans F1 F14
      refine ⟨e4, st4, hid, _, re4, S4, q4, ?_, Go.mono k2 F04, GoS.mono k1 F04, ?_⟩
      · exact fun σ' H' e' st' F' S' re' w => ⟨e', st', w, Fr.trans F14 F', S', re'⟩
      · exact fun σ' H' e' st' F' S' re' w => ⟨e', st', w, Fr.trans F14 F', S', re'⟩
end
end DL
namespace DL
open PySem PySem.Spec PyProof.Rows L2
variable [Tabs]
/-! ### defs: as FnOk, called where no repr is under way -/
structure FnG (P : Program) (w : World) (K : PySem.W.Frag) (mg : Str → Option Value) (base : Heap) (k : Nat) (f : Addr) (fd : FuncData) (ps : List Str) (sp : Sp) : Prop where
  len : ∀ vs H Q E, sp vs H Q E → vs.length = ps.length
  run : ∀ (A : Around) (outer : List Env) (s : Shared) (H : Hp) (args : Args) (us : List Value) (vs : List V) (Q : VK) (E : XK), A.guards = some [] → Room k A → Env0 P w K mg base A outer s H → BindsTo s fd args (ps.zip us) → Vals vs us → sp vs H Q E →
    codeAny (model P w) A (.call (.ref f) args) (CR CX0 outer P w H s Q E) s
theorem FnG.mono {P : Program} {w : World} {K : PySem.W.Frag} {mg : Str → Option Value} {base : Heap} {j k : Nat} {f : Addr} {fd : FuncData} {ps : List Str} {sp : Sp} (F : FnG P w K mg base j f fd ps sp) (h : j ≤ k) : FnG P w K mg base k f fd ps sp :=
  ⟨F.len, fun A outer s H args us vs Q E hg hr => F.run A outer s H args us vs Q E hg (hr.mono h)⟩
abbrev SpD := List D → Sto → Kd → Prop
def upSp (K : PySem.W.Frag) (sp : SpD) : Sp := fun vs H Q _ => ∃ ds st hid Qd, DvsD K (jn st hid) H vs ds ∧ Sx K st hid H ∧ sp ds st Qd ∧ Go K st hid H Qd Q
abbrev FnD (P : Program) (w : World) (K : PySem.W.Frag) (mg : Str → Option Value) (base : Heap) (k : Nat) (f : Addr) (fd : FuncData) (ps : List Str) (sp : SpD) : Prop := FnG P w K mg base k f fd ps (upSp K sp)
theorem FnD.imp {P : Program} {w : World} {K : PySem.W.Frag} {mg : Str → Option Value} {base : Heap} {k : Nat} {f : Addr} {fd : FuncData} {ps : List Str} {sp sp' : SpD} (F : FnD P w K mg base k f fd ps sp) (i : ∀ ds st Q, sp' ds st Q → sp ds st Q) : FnD P w K mg base k f fd ps sp' :=
  ⟨fun vs H Q E ⟨ds, st, hid, Qd, r, S, h, g⟩ => F.len vs H Q E ⟨ds, st, hid, Qd, r, S, i _ _ _ h, g⟩, fun A outer s H args us vs Q E hg hr he hb hv ⟨ds, st, hid, Qd, r, S, h, g⟩ => F.run A outer s H args us vs Q E hg hr he hb hv ⟨ds, st, hid, Qd, r, S, i _ _ _ h, g⟩⟩
section
variable {P : Program} {w : World} {K : PySem.W.Frag} {mg : Str → Option Value} {base : Heap}
/-- the context in which a def's body runs -/
abbrev cxD (P : Program) (w : World) (K : PySem.W.Frag) (mg : Str → Option Value) (base : Heap) (N : List Str) (qual : Str) (sc : Scope) (f : Addr) (cd : Value) (A : Around) (outer : List Env) (s : Shared) (H : Hp) (E : XK) : Cx := (cxOf CX0 P w K mg base N qual sc f cd A outer s H E).nox
def startD (N : List Str) (ds : List D) : Ed := ds.map some ++ List.replicate (N.length - ds.length) none
theorem re_start {st : Sto} {H : Hp} {N : List Str} {vs : List V} {ds : List D} (r : DvsD K st H vs ds) : RE K st H (L2.start N vs) (startD N ds) := by
  have hl := Paired.length r
  refine ⟨by unfold L2.start startD; simp [hl], fun i d h => ?_⟩
  unfold startD at h
  by_cases hi : i < ds.length
  · rw [List.getElem?_append_left (by simpa using hi), List.getElem?_map] at h
    cases q : ds[i]? with
    | none =>
      rw [q] at h
      cases h
    | some d' =>
      rw [q] at h
      cases Option.some.inj (Option.some.inj h)
      obtain ⟨v, h1, h2⟩ := r.get q
      refine ⟨v, ?_, h2⟩
      unfold L2.start
      rw [List.getElem?_append_left (by simpa [hl] using hi), List.getElem?_map, h1]
      rfl
  · rw [List.getElem?_append_right (by simpa using hi), List.getElem?_replicate] at h
    split at h <;> cases h
theorem fnD_ok {x qual : Str} {st : Stmt} {f : Addr} {fd : FuncData} {N ps : List Str} {k : Nat} {sp : SpD} {t : TSd} (F : Fun K x qual st f fd) (S : FnScope N ps (defScope st)) (len : ∀ ds s Q, sp ds s Q → ds.length = ps.length)
    (hbody : ∀ (cd : Value) (A : Around) (outer : List Env) (s : Shared) (H : Hp) (E : XK), A.guards = some [] → Room k (A.deeper (envOfC qual (defScope st) s.heap.objs.size f cd)) → PDSs (cxD P w K mg base N qual (defScope st) f cd A outer s H E) (defBody st) t)
    (hsp : ∀ ds s Q, sp ds s Q → t { nx := fun _ s' => Q (.d .none) s', rt := Q } (startD N ds) s) : FnD P w K mg base (k + 1) f fd ps sp := by
  obtain ⟨oc, od, kV, doc, pm, an, cd, ct, osl, rfl, lk, hcd⟩ := F.ex
  have lenV : ∀ vs H Q E, upSp K sp vs H Q E → vs.length = ps.length := fun vs H Q E ⟨ds, s, hid, Qd, r, _, h, _⟩ => (Paired.length r).trans (len ds s Qd h)
  refine ⟨lenV, fun A outer s H args us vs Q E hg hr e0 hb r hq => ?_⟩
  have KX : K.In s.heap := e0.mod.kin.keeps fun b o e => (e0.bs b o e).1
  have lim : s.heap.NoLimit := e0.mod.nolimit.keeps fun b o e => (e0.bs b o e).1
  have hkind : ∀ y ∈ ps.zip us, (defScope st).names.lookup y.1 = some .local ∨ ((defScope st).names.lookup y.1 = some .cell ∧ ((cellsFrom (s.heap.objs.size + 1) (defScope st).names []).lookup y.1).isSome = true) := fun y hy =>
    (S.par y.1 (List.of_mem_zip (show (y.1, y.2) ∈ ps.zip us from hy)).1).elim .inl fun q => .inr ⟨q, PySem.W.cellsFrom_some _ _ _ (.inl q)⟩
  refine codeAny_call_function hr.depth (KX _ _ lk) rfl S.co S.gen rfl (PySem.W.codeRec_of KX hcd) (hb _ _ _ _ (wpAny_newFunctionEnv_cells S.kind hkind fun env he s1 x1 => ?_))
  subst he
  refine ⟨lim.keeps x1.toInCall.keep, codeAny_func ?_⟩
  have ht := (hbody cd A outer s H E hg (hr.deeper _)).nox
  have I := inv_start (CX := CX0) (K := K) (mg := mg) (base := base) (E := E) S hr.hd e0 (lenV _ _ _ _ hq) r x1
  obtain ⟨ds, sd, hid, Qd, rd, Sd, hd, gd⟩ := hq
  have rdy : upS K t { nx := fun _ H' => Q .non H', rt := Q } (L2.start N vs) H := by
    refine ⟨startD N ds, sd, hid, { nx := fun _ s' => Qd (.d .none) s', rt := Qd }, re_start rd, Sd, hsp ds sd Qd hd, ?_, gd, ?_, ?_⟩
    · exact fun _ H' _ st' F' S' _ q => gd .non H' _ st' F' S' (.d .non) q
    · exact fun _ _ _ _ _ _ _ q => q.elim
    · exact fun _ _ _ _ _ _ _ q => q.elim
  refine wpAny_mono (ht.run [] s1 (L2.start N vs) H _ I rdy) (fun fl s' hs => ?_) fun e s' hs => hs
  cases fl with
  | ret u =>
    obtain ⟨v, σ', H', J, rv, q⟩ := hs
    exact ⟨v, H', J.os, J.bare, J.base, J.hok, rv, q⟩
  | next =>
    obtain ⟨σ', H', J, q⟩ := hs
    exact ⟨.non, H', J.os, J.bare, J.base, J.hok, rfl, q⟩
  | brk =>
    obtain ⟨_, _, _, q⟩ := hs
    exact False.elim q
  | cont =>
    obtain ⟨_, _, _, q⟩ := hs
    exact False.elim q
end
/-! ### calls of defs -/
section
variable {X : Cx} {k : Nat} {f : Addr} {fd : FuncData} {ps ks : List Str} {sp : SpD} {dds : List D} {ds : List Value} {x : Str} {p pos : Pos} {e : Expr} {es : List Expr} {kws : List Keyword} {t tk : TAd}
theorem run_fg {pins : List (Addr × Obj)} {σ : L2.St} {H : Hp} {s : Shared} {Q : VK} {us ws : List Value} {kw : List (Str × Value)} {vs : List V} {S : Sp} (F : FnG X.prog X.w X.K X.mg X.base k f fd ps S) (hG : X.A.guards = some []) (hr : Room k X.A)
    (I : Inv X pins σ H s) (hb : us.length = ps.length → BindsTo s fd ⟨ws, kw⟩ (ps.zip us)) (r : Vals vs us) (h : S vs H Q E0) : wpAny (model X.prog X.w) X.A (call (.ref f) ws kw) (EP X pins σ Q) X.xe s := by
  have hl : us.length = ps.length := by
    rw [← r.length]
    exact F.len _ _ _ _ h
  refine wpAny_call (codeAny_mono (F.run X.A X.stack s H ⟨ws, kw⟩ us vs Q E0 hG hr I.env0 (hb hl) r h) fun r s' hq => ?_)
  cases r with
  | error e => exact False.elim hq
  | ok fl =>
    cases fl with
    | ret u => exact I.after hq
    | next => exact False.elim hq
    | brk => exact False.elim hq
    | cont => exact False.elim hq
def dFn (sp : SpD) (dds : List D) (t : TAd) : TEd := fun e st Q => t e st fun xs st1 => sp (xs ++ dds) st1 Q
/-- f(e, ..), the rest by defaults -/
theorem pd_fn (F : FnD X.prog X.w X.K X.mg X.base k f fd ps sp) (hG : X.A.guards = some []) (hr : Room k X.A) (hg : Gl X x) (hm : X.mg x = some (.ref f)) (hk : PySem.W.keepIn X.K (.ref f) = true) (hb : Binds X.K fd ps ds)
    (hd : ∃ dvs, Vals dvs ds ∧ ∀ st H, DvsD X.K st H dvs dds) (ha : PDA X (e :: es) t) (hdb : (x == ("__debug__" : Str)) = false := by decide) (he : starEach (e :: es) X.env = (false, eval e X.env) :: starEach es X.env := by rfl)
    (hpl : (backTo pos (starEach es X.env)).any (·.1) = false := by rfl) : PD X (.Call (.Name x p) (e :: es) [] pos) (dFn sp dds t) := by
  refine ⟨fun pins s σ H Q I ⟨en, st, hid, Qd, re, S, h, g⟩ => ?_⟩
  obtain ⟨dvs, hv, hdd⟩ := hd
  refine wpAny_Call_Name_kw (ld_glob I hg hm (PySem.W.callWith_K (h₀ := X.base) I.ok.mod.kin hk (thn (ha.run pos pins s σ H (fun vs H1 => upSp X.K sp (vs ++ dvs) H1 Q E0) I ⟨en, st, hid, _, re, S, h, fun vs H1 ds1 st1 F1 S1 r1 h1 => ?_⟩) fun us s1 ⟨vs, H1, I1, r, q⟩ => ⟨I1.kIn, ?_⟩) he hpl) hdb)
  · exact ⟨_, st1, hid, Qd, DvsD.append r1 (hdd _ _), S1, h1, Go.mono g F1⟩
  · exact run_fg F hG hr I1 (fun hl => hb _ us I1.kIn hl) (r.append hv) q
def pick {α : Type} (ix : List Nat) (xs : List α) : List α := ix.filterMap fun i => xs[i]?
theorem pick_pair {α β : Type} {R : α → β → Prop} {xs : List α} {ys : List β} (r : Paired R xs ys) : ∀ ix : List Nat, Paired R (pick ix xs) (pick ix ys)
  | [] => .nil
  | i :: ix => by
    have ih := pick_pair r ix
    have key : ∀ {xs : List α} {ys : List β} (i : Nat), Paired R xs ys → (xs[i]? = none ∧ ys[i]? = none) ∨ ∃ x y, xs[i]? = some x ∧ ys[i]? = some y ∧ R x y := by
      intro xs ys i r
      induction r generalizing i with
      | nil => exact .inl ⟨by simp, by simp⟩
      | cons h t ih =>
        cases i with
        | zero => exact .inr ⟨_, _, rfl, rfl, h⟩
        | succ i => simpa using ih i
    unfold pick at ih ⊢
    rw [List.filterMap_cons, List.filterMap_cons]
    rcases key i r with ⟨h1, h2⟩ | ⟨x, y, h1, h2, h3⟩
    · rw [h1, h2]
      exact ih
    · rw [h1, h2]
      exact .cons h3 ih
/-- the keywords' values -/
abbrev PDK (X : Cx) (kws : List Keyword) (t : TAd) : Prop := PK X kws (upA X.K t)
theorem PK.imp {X : Cx} {kws : List Keyword} {t t' : TA} (h : PK X kws t) (i : ∀ σ H Q, t' σ H Q → t σ H Q) : PK X kws t' := ⟨fun pos pins s σ H Q I w => h.run pos pins s σ H Q I (i σ H Q w)⟩
theorem pdk_nil : PDK X [] dNil := PK.imp pk_nil fun σ H Q ⟨e, st, hid, Qd, re, S, h, k⟩ => k [] H [] st (Fr.refl _ _) S .nil h
theorem pdk_cons {nm : Option Str} {kpos : Pos} {te : TEd} (ha : PD X e te) (hr : PDK X kws t) : PDK X (⟨nm, e, kpos⟩ :: kws) (dCons te t) :=
  PK.imp (pk_cons ha hr) fun σ H Q ⟨e, st, hid, Qd, re, S, h, k⟩ => ⟨e, st, hid, _, re, S, h, fun v1 H1 d1 st1 F1 S1 r1 h1 => ⟨e, st1, hid, _, re.mono F1 S.sr, S1, h1, fun vs H2 ds st2 F2 S2 r2 h2 =>
    k _ H2 (d1 :: ds) st2 (Fr.trans F1 F2) S2 (.cons (r1.mono F2 S1.sr) r2) h2⟩⟩
def dFnK (sp : SpD) (ix : List Nat) (t : TAd) : TEd := fun e st Q => t e st fun xs st1 => sp (pick ix xs) st1 Q
/-- f(k = v, ..), all by keywords -/
theorem pd_fnK (F : FnD X.prog X.w X.K X.mg X.base k f fd ps sp) (hG : X.A.guards = some []) (hr : Room k X.A) (hg : Gl X x) (hm : X.mg x = some (.ref f)) (hk : PySem.W.keepIn X.K (.ref f) = true) (ix : List Nat)
    (hb : ∀ (s : Shared) (ws : List Value), ws.length = ks.length → BindsTo s fd ⟨[], ks.zip ws⟩ (ps.zip (pick ix ws))) (hn : (pick ix ks).length = ps.length → True) (hkw : PDK X kws t)
    (hall : (backToKw pos (keywordEach kws X.env)).all (·.1.isSome) = true := by rfl) (hks : (backToKw pos (keywordEach kws X.env)).filterMap (·.1) = ks := by rfl) (hl : ∀ us : List Value, (pick ix us).length = ps.length → us.length = ks.length)
    (hdb : (x == ("__debug__" : Str)) = false := by decide) (hpl : (backToKw pos (keywordEach kws X.env)).any (·.1.isNone) = false := by rfl) : PD X (.Call (.Name x p) [] kws pos) (dFnK sp ix t) := by
  refine ⟨fun pins s σ H Q I ⟨en, st, hid, Qd, re, S, h, g⟩ => ?_⟩
  refine wpAny_Call_Name_kw (ld_glob I hg hm (PySem.W.callWith_KW0 (h₀ := X.base) I.ok.mod.kin hk hall (thn (hkw.run pos pins s σ H (fun vs H1 => upSp X.K sp (pick ix vs) H1 Q E0) I ⟨en, st, hid, _, re, S, h, fun vs H1 ds1 st1 F1 S1 r1 h1 => ?_⟩) fun us s1 ⟨vs, H1, I1, r, q⟩ => ⟨I1.kIn, ?_⟩) hpl) hdb)
  · exact ⟨_, st1, hid, Qd, pick_pair r1 ix, S1, h1, Go.mono g F1⟩
  · rw [hks]
    exact run_fg F hG hr I1 (fun hl' => hb s1 us (hl us hl')) (pick_pair r ix) q
end
end DL
namespace DL
open PySem PySem.Spec PyProof.Rows L2
variable [Tabs]
/-- a code object's table, as it stands behind the top -/
abbrev tab0 : Obj := { cls := .none, data := .fields #[] }
abbrev scr0 (vs : List Value) : Obj := { cls := .type "list", data := .seq vs.toArray }
/-- the law's call, from its def's promise; cs: code objects whose tables may grow -/
theorem lawG {P : Program} {w : World} {K : PySem.W.Frag} {mg mb : Str → Option Value} {k : Nat} {fa a : Addr} {fd : FuncData} {x : Str} {sp : SpD} {s₁ : Shared} {vs : List Value} {ns : List Int} {cs : List (Addr × Addr)} (hcs : (Tabs.tp : List Addr) = cs.map (·.2))
    (KX : K.In s₁.heap) (hns : s₁.heap.Ns mainGlobals mg) (hbn : s₁.heap.Ns builtinsNs mb) (hbb : ∀ x : Str, x ≠ "__name__" → mb x = bootBuiltins x) (hlim : s₁.heap.NoLimit) (hgens : s₁.gens = #[])
    (hT : ∀ p ∈ cs, s₁.heap.get? p.2 = some tab0) (nT : ∀ p ∈ cs, K.lookup p.2 = none) (hC : ∀ p ∈ cs, PySem.W.CodeHd s₁.heap p.1 p.2)
    (hbm : ∃ (bm : Addr) (ob : Obj), mg "__builtins__" = some (.ref bm) ∧ bm ≠ builtinsNs ∧ s₁.heap.get? bm = some ob ∧ ob.cls = .type "module" ∧ ob.dict = some builtinsNs ∧ ob.data = .plain)
    (ha : s₁.heap.get? a = some (scr0 vs)) (hi : IntsAre vs ns) (hl : ns.length ≤ sizeLine) (hr : Room k callerA)
    (F : ∀ base : Heap, K.In base → base.Ns mainGlobals mg → (∀ p ∈ cs, GxR.TabB base mg p.1 p.2) → FnD P w K mg base k fa fd [x] sp) (hbind : ∀ (s : Shared) (u : Value), BindsTo s fd ⟨[u], []⟩ [(x, u)])
    (hsp : sp [.scr ns] (fun _ => none) fun d _ => d = .d (.bool true)) :
    codeAny (model P w) callerA (.call (.ref fa) ⟨[.ref a], []⟩) (fun r s' => r = .ok (.ret (.bool true)) ∧ OldK s₁.heap s'.heap ∧ s'.os = s₁.os ∧ AllBare s'.gens) s₁ := by
  have rv := vals_ints hi
  have lenV := hi.length
  have inT : ∀ b : Addr, b ∈ (Tabs.tp : List Addr) → ∃ p ∈ cs, p.2 = b := fun b hb => by
    rw [hcs] at hb
    exact List.mem_map.mp hb
  have isT : ∀ b : Addr, b ∈ (Tabs.tp : List Addr) → s₁.heap.get? b = some tab0 := fun b hb => by
    obtain ⟨p, hp, e⟩ := inT b hb
    exact e ▸ hT p hp
  have tT : ∀ p ∈ cs, p.2 ∈ (Tabs.tp : List Addr) := fun p hp => by
    rw [hcs]
    exact List.mem_map.mpr ⟨p, hp, rfl⟩
  have aT : a ∉ (Tabs.tp : List Addr) := fun z => by
    have q := (isT a z).symm.trans ha
    have q2 : (Data.fields #[] : Data) = Data.seq vs.toArray _ := congrArg Obj.data (Option.some.inj q)
    cases q2
  have core : ∀ H : Hp, (∀ b, H b = none ∨ (b ∈ (Tabs.tp : List Addr) ∧ H b = some (.tbl #[])) ∨ (b = a ∧ H a = some (.frz (scr0 vs) (.lst (ns.map V.int))))) → (∀ b ∈ (Tabs.tp : List Addr), H b = some (.tbl #[])) → DvD K (fun _ => none) H (.ref a) (.scr ns) → (H a ≠ none → K.lookup a = none) →
      codeAny (model P w) callerA (.call (.ref fa) ⟨[.ref a], []⟩) (fun r s' => r = .ok (.ret (.bool true)) ∧ OldK s₁.heap s'.heap ∧ s'.os = s₁.os ∧ AllBare s'.gens) s₁ := by
    intro H hO hH hS hK
    have hok : HOk P w H s₁.heap := fun b u z => by
      rcases hO b with q | ⟨h1, q⟩ | ⟨rfl, q⟩
      · rw [z] at q
        cases q
      · rw [z] at q
        cases q
        exact isT b h1
      · rw [z] at q
        cases q
        exact ⟨ha, by rw [List.length_map]; exact hl, vs, _, rv, ha⟩
    have base_of : ∀ {b : Addr} {o : Obj}, s₁.heap.get? b = some o → H b = none → (hidT s₁.heap H).get? b = some o := fun e n => hidT_get e n
    have plainly : ∀ {b : Addr} {o : Obj}, s₁.heap.get? b = some o → (∀ us n, o.data ≠ .seq us n) → o.data ≠ .fields #[] → H b = none := fun {b o} e d1 d2 => by
      rcases hO b with q | ⟨h1, _⟩ | ⟨rfl, _⟩
      · exact q
      · have := Option.some.inj ((isT b h1).symm.trans e)
        exact absurd (by rw [← this]) d2
      · have := Option.some.inj (ha.symm.trans e)
        exact absurd (by rw [← this] : o.data = (scr0 vs).data) (d1 _ _)
    have noA : ∀ {b : Addr} {o : Obj} {es : Array DictEntry} {ep : Nat}, s₁.heap.get? b = some o → o.data = .dict es ep → H b = none := fun {b o es ep} e d =>
      plainly e (fun us n z => by rw [d] at z; cases z) (fun z => by rw [d] at z; cases z)
    have nsK : ∀ {b : Addr} {m : Str → Option Value}, s₁.heap.Ns b m → (hidT s₁.heap H).Ns b m := fun {b m} ⟨o, es, ep, e, d, r⟩ => ⟨o, es, ep, base_of e (noA e d), d, r⟩
    have hKb : K.In (hidT s₁.heap H) := fun b o e => base_of (KX b o e) (by
      rcases hO b with q | ⟨h1, _⟩ | ⟨rfl, q⟩
      · exact q
      · obtain ⟨p, hp, ep⟩ := inT b h1
        rw [← ep, nT p hp] at e
        cases e
      · rw [hK (by rw [q]; simp)] at e
        cases e)
    have hM : Mod K mg (hidT s₁.heap H) := ⟨hKb, nsK hns, ⟨mb, nsK hbn, hbb⟩, let ⟨mc, h1, h2⟩ := hlim; ⟨mc, nsK h1, h2⟩⟩
    have e0 : Env0 P w K mg (hidT s₁.heap H) callerA [] s₁ H := ⟨rfl, hM, fun b o e => of_hidT e, Nat.le_of_eq (hidT_size _ _), trivial, fun b hb => absurd (show b ∈ ([] : List Addr) from hb) (by simp), hok, .of_eq hgens⟩
    have TB : ∀ p ∈ cs, GxR.TabB (hidT s₁.heap H) mg p.1 p.2 := fun p hp => by
      have hTp := hT p hp
      constructor
      · obtain ⟨o, us, file, tf, flags, tg, inF, text, tt, e1, r1, r2, r3, rest⟩ := hC p hp
        exact ⟨o, us, file, tf, flags, tg, inF, text, tt, base_of e1 (plainly e1 (fun us n z => by rw [r2] at z; cases z) fun z => by
          rw [r2] at z
          cases z
          simp at r3), r1, r2, r3, rest⟩
      · obtain ⟨bm, ob, b1, b2, b3, b4, b5, b6⟩ := hbm
        refine ⟨bm, ob, b1, b2, fun q => ?_, fun q => ?_, base_of b3 (plainly b3 (fun us n z => by rw [b6] at z; cases z) fun z => by rw [b6] at z; cases z), b4, b5, b6⟩
        · obtain ⟨o, es, ep, e, hd, _⟩ := hns
          have := Option.some.inj ((q ▸ b3 : s₁.heap.get? mainGlobals = some ob).symm.trans e)
          rw [← this, b6] at hd
          cases hd
        · have := Option.some.inj ((q ▸ b3 : s₁.heap.get? p.2 = some ob).symm.trans hTp)
          rw [this] at b6
          cases b6
      · intro q
        obtain ⟨o, es, ep, e, hd, _⟩ := hns
        have := Option.some.inj ((q ▸ e : s₁.heap.get? p.2 = some o).symm.trans hTp)
        rw [this] at hd
        cases hd
    have S0 : Sx K (fun _ => none) (fun _ => none) H := ⟨fun _ _ => rfl, (fun b ds z => by cases z), fun b hb => ⟨#[], hH b hb, trivial⟩⟩
    have hq : upSp K sp [.ref a] H (fun v _ => v = .bl true) (fun _ _ _ => False) := ⟨[.scr ns], (fun _ => none), (fun _ => none), (fun d _ => d = .d (.bool true)), .cons (show DvD K (jn (fun _ => none) (fun _ => none)) H (.ref a) (.scr ns) from hS) .nil, S0, hsp, fun v H' d st' F' S' r q => by
      subst q
      cases r with
      | d r =>
        cases r with
        | bl b => rfl⟩
    refine codeAny_mono ((F _ hKb (nsK hns) TB).run callerA [] s₁ H ⟨[.ref a], []⟩ [.ref a] [.ref a] _ _ rfl hr e0 (hbind s₁ (.ref a)) (.cons rfl .nil) hq) fun r s' h => ?_
    cases r with
    | error e => exact False.elim h
    | ok fl =>
      cases fl with
      | next => exact False.elim h
      | brk => exact False.elim h
      | cont => exact False.elim h
      | ret u =>
        obtain ⟨v, H', os, bare, un, hok', r', q⟩ := h
        cases (show v = .bl true from q)
        cases (show u = Value.bool true from r')
        have key : ∀ b o, b ∉ (Tabs.tp : List Addr) → s₁.heap.get? b = some o → s'.heap.get? b = some o := fun b o nb e => by
          rcases hO b with q | ⟨h1, _⟩ | ⟨rfl, q⟩
          · exact un.keep b o e q (by intro z; exact absurd (show b ∈ ([] : List Addr) from z) (by simp)) (by simp)
          · exact absurd h1 nb
          · obtain ⟨e2, _⟩ := hok' b _ (un.frzs b _ _ q)
            rw [← ha.symm.trans e]
            exact e2
        have grown : ∀ b ∈ (Tabs.tp : List Addr), ∃ more : Array Value, s'.heap.get? b = some { cls := .none, data := .fields more } := fun b hb => by
          obtain ⟨more, z⟩ := un.tbls b #[] (hH b hb)
          exact ⟨_, hok' b _ z⟩
        refine ⟨rfl, ⟨fun b o e => ?_, fun b o e => ?_⟩, os, bare⟩
        · by_cases hb : b ∈ (Tabs.tp : List Addr)
          · obtain ⟨more, hm⟩ := grown b hb
            obtain ⟨p, hp, rfl⟩ := inT b hb
            cases (hT p hp).symm.trans e
            exact .inr (.inl ⟨((hC p hp).tab (hT p hp)).isCodeTable, rfl, #[], more, rfl, by rw [Array.empty_append]; exact hm⟩)
          · exact .inl (key b o hb e)
        · by_cases hb : b ∈ (Tabs.tp : List Addr)
          · obtain ⟨more, hm⟩ := grown b hb
            exact ⟨_, hm⟩
          · exact ⟨o, key b o hb e⟩
  cases hk : K.lookup a with
  | some o =>
    have e := KX a o hk
    rw [ha] at e
    cases e
    have hS : SqL K (fun _ => none) a (ns.map V.int) := .inr ⟨_, vs.toArray, _, hk, rfl, rfl, rfl, by rw [List.size_toArray, lenV]; exact hl, by simpa using rv⟩
    refine core (fun b => if b ∈ (Tabs.tp : List Addr) then some (.tbl #[]) else none) (fun b => ?_) (fun b hb => if_pos hb) (.scr (.inr ⟨_, vs.toArray, _, hk, rfl, rfl, rfl, by rw [List.size_toArray, lenV]; exact hl, by simpa using rv⟩) (.inr hS)) fun z => absurd (if_neg aT) z
    by_cases hb : b ∈ (Tabs.tp : List Addr)
    · exact .inr (.inl ⟨hb, if_pos hb⟩)
    · exact .inl (if_neg hb)
  | none =>
    refine core (fun b => if b = a then some (.frz (scr0 vs) (.lst (ns.map V.int))) else if b ∈ (Tabs.tp : List Addr) then some (.tbl #[]) else none) (fun b => ?_) (fun b hb => ?_) (.scr (.inl (.inr ⟨_, if_pos rfl⟩)) (.inl ⟨_, if_pos rfl⟩)) fun _ => hk
    · by_cases hb : b = a
      · exact .inr (.inr ⟨hb, if_pos rfl⟩)
      · by_cases hb2 : b ∈ (Tabs.tp : List Addr)
        · exact .inr (.inl ⟨hb2, (if_neg hb).trans (if_pos hb2)⟩)
        · exact .inl ((if_neg hb).trans (if_neg hb2))
    · exact (if_neg fun z : b = a => aT (z ▸ hb)).trans (if_pos hb)
/-- the goal that k_head leaves -/
theorem walkG {l : PySem.W.OpenLaw} {n k : Nat} {q : Program} {loose : List Str} {XP : (Str → Option Value) → Heap → Prop} {YP : World → Heap → Prop} {d : DefRec} {K : Params → PySem.W.Frag} {sp : SpD} {x : Str} {cs : List (Addr × Addr)} (hcs : (Tabs.tp : List Addr) = cs.map (·.2))
    (hn : l.most = some n) (hn2 : n ≤ sizeLine) (hdf : d.params.defaults = []) (hr : Room k callerA) (hY : ∀ (w : World) (h : Heap), YP w h → (K w.params).In h)
    (hT : ∀ (w : World) (h : Heap), YP w h → (K w.params).In h → (∀ p ∈ cs, h.get? p.2 = some tab0) ∧ (∀ p ∈ cs, (K w.params).lookup p.2 = none) ∧ ∀ p ∈ cs, PySem.W.CodeHd h p.1 p.2)
    (F : ∀ (w : World) (mg : Str → Option Value) (fa : Addr) (h : Heap), (K w.params).In h → h.Ns mainGlobals mg → mg d.name = some (.ref fa) →
      ∃ fd : FuncData, (∀ (s : Shared) (u : Value), BindsTo s fd ⟨[u], []⟩ [(x, u)]) ∧ ∀ base : Heap, (K w.params).In base → base.Ns mainGlobals mg → (∀ p ∈ cs, GxR.TabB base mg p.1 p.2) → FnD l.prog w (K w.params) mg base k fa fd [x] sp)
    (hsp : ∀ ns : List Int, ns.length ≤ n → sp [.scr ns] (fun _ => none) fun d _ => d = .d (.bool true)) :
    PySem.W.WalkO q loose XP YP l.row.toRowW d [] (fun f vs => PySem.call f vs) := by
  refine Att.attach_call hn hdf fun w s₀ s₁ mg mb fa o pm cd doc a vs ns G Y ho hd hcd hmg hobj hints hlen hg => ?_
  have KX := hY w _ Y
  obtain ⟨t1, t2, t3⟩ := hT w _ Y KX
  obtain ⟨fd, hb, hF⟩ := F w mg fa _ KX G.T.g hmg
  exact lawG hcs KX G.T.g G.T.b G.T.builtins G.T.nolimit hg t1 t2 t3 G.T.bmain hobj hints (Nat.le_trans hlen hn2) hr hF hb (hsp ns hlen)
end DL
namespace DL
open PySem PySem.Spec PyProof.Rows L2
variable [Tabs]
theorem bt_len : bootBuiltins "len" = some (.builtin "len") := by decide +kernel
theorem bt_abs : bootBuiltins "abs" = some (.builtin "abs") := by decide +kernel
theorem bt_divmod : bootBuiltins "divmod" = some (.builtin "divmod") := by decide +kernel
theorem bt_all : bootBuiltins "all" = some (.builtin "all") := by decide +kernel
theorem bt_repr : bootBuiltins "repr" = some (.builtin "repr") := by decide +kernel
theorem bt_min : bootBuiltins "min" = some (.builtin "min") := by decide +kernel
theorem bt_max : bootBuiltins "max" = some (.builtin "max") := by decide +kernel
theorem bt_int : bootBuiltins "int" = some (.type "int") := by decide +kernel
theorem bt_bool : bootBuiltins "bool" = some (.type "bool") := by decide +kernel
theorem bt_str : bootBuiltins "str" = some (.type "str") := by decide +kernel
theorem bt_list : bootBuiltins "list" = some (.type "list") := by decide +kernel
theorem bt_tuple : bootBuiltins "tuple" = some (.type "tuple") := by decide +kernel
theorem bt_isinstance : bootBuiltins "isinstance" = some (.builtin "isinstance") := by decide +kernel
/-- {}, and a dict of one written pair -/
def dDict (ps : List (PyData × PyData)) : TEd := fun _ st Q => Q (.d (.dict ps)) st
theorem pd_dict0 {X : Cx} {pos : Pos} : PD X (.Dict [] [] pos) (dDict []) := PE.imp pe_dnewK fun σ H Q ⟨e, st, hid, Qd, re, S, h, k⟩ p hp =>
  Go.new k S hp (.d (.dic (kvs := []) (ps := []) upd_same (S.sr.free0 hp) .nil .nil)) h
theorem pd_dict1 {X : Cx} {pos p1 p2 : Pos} {x : Str} {i : Int} {j j2 : Nat} : PD X (.Dict [some (.Constant (.str x) j p1)] [.Constant (.int i) j2 p2] pos) (dDict [(.str x, .int i)]) :=
  PE.imp (pe_disp (pps_cons pe_str pe_int pps_nil) rfl rfl (by simp) (by show 1 ≤ 15; omega)) fun σ H Q ⟨e, st, hid, Qd, re, S, h, k⟩ p hp => by
    refine ⟨upd_same, [(Sum.inr x, .int i)], rfl, by show 1 ≤ 15; omega, ?_⟩
    rw [upd_upd]
    exact Go.new k S hp (.d (.dic (kvs := [(Sum.inr x, .int i)]) (ps := [(.str x, .int i)]) upd_same (S.sr.free0 hp) (.cons (.str x) .nil) (.cons (.int i) .nil))) h
theorem u65 {k : Nat} {A : Around} (r : Room k A) : A.units + 65 < cLine := by
  have := r.un
  omega
/-- a def of the text, callable with a promise -/
structure Can (P : Program) (w : World) (K : PySem.W.Frag) (mg : Str → Option Value) (base : Heap) (k : Nat) (x : Str) (st : Stmt) (ps : List Str) (sp : SpD) : Prop where
  ex : ∃ f fd, FnD P w K mg base k f fd ps sp ∧ mg x = some (.ref f) ∧ Fun K x x st f fd ∧ Binds K fd ps []
/-- where it stands -/
structure Has (K : PySem.W.Frag) (mg : Str → Option Value) (x : Str) (st : Stmt) : Prop where
  ex : ∃ f fd, mg x = some (.ref f) ∧ Fun K x x st f fd
section
variable {P : Program} {w : World} {K : PySem.W.Frag} {mg : Str → Option Value} {base : Heap}
theorem can_of {x : Str} {st : Stmt} {N ps : List Str} {k : Nat} {sp : SpD} {t : TSd} (F : Has K mg x st) (S : FnScope N ps (defScope st)) (len : ∀ ds s Q, sp ds s Q → ds.length = ps.length)
    (bind : ∀ (kV doc pm : Value) (an : Option Addr) (cdv ct : Value) (us : List Value), us.length = ps.length → bindArgs (PySem.W.fnOf x x (defArgs st) (defBody st) (defScope st) .none kV doc pm an cdv ct) ⟨us, []⟩ = pure (ps.zip us))
    (hbody : ∀ (f : Addr) (cd : Value) (A : Around) (outer : List Env) (s : Shared) (H : Hp) (E : XK), A.guards = some [] → Room k (A.deeper (envOfC x (defScope st) s.heap.objs.size f cd)) → PDSs (cxD P w K mg base N x (defScope st) f cd A outer s H E) (defBody st) t)
    (hsp : ∀ ds s Q, sp ds s Q → t { nx := fun _ s' => Q (.d .none) s', rt := Q } (startD N ds) s) : Can P w K mg base (k + 1) x st ps sp := by
  obtain ⟨f, fd, hm, F⟩ := F.ex
  exact ⟨f, fd, fnD_ok F S len (hbody f) hsp, hm, F, F.binds bind⟩
theorem Can.imp {x : Str} {st : Stmt} {ps : List Str} {k : Nat} {sp sp' : SpD} (C : Can P w K mg base k x st ps sp) (i : ∀ ds st Q, sp' ds st Q → sp ds st Q) : Can P w K mg base k x st ps sp' := by
  obtain ⟨f, fd, F, h⟩ := C.ex
  exact ⟨f, fd, FnD.imp F i, h⟩
theorem Can.lift {x : Str} {st : Stmt} {ps : List Str} {j k : Nat} {sp : SpD} (C : Can P w K mg base j x st ps sp) (h : j ≤ k) : Can P w K mg base k x st ps sp := by
  obtain ⟨f, fd, F, h'⟩ := C.ex
  exact ⟨f, fd, FnG.mono F h, h'⟩
end
section
variable {X : Cx} {k : Nat} {ps ks : List Str} {sp : SpD} {x : Str} {st : Stmt} {p pos : Pos} {e : Expr} {es : List Expr} {kws : List Keyword} {t tk : TAd}
def dFn0 (sp : SpD) (t : TAd) : TEd := fun e st Q => t e st fun xs st1 => sp xs st1 Q
theorem pd_call (C : Can X.prog X.w X.K X.mg X.base k x st ps sp) (hG : X.A.guards = some []) (hr : Room k X.A) (hg : Gl X x) (ha : PDA X (e :: es) t) (hdb : (x == ("__debug__" : Str)) = false := by decide)
    (he : starEach (e :: es) X.env = (false, eval e X.env) :: starEach es X.env := by rfl) (hpl : (backTo pos (starEach es X.env)).any (·.1) = false := by rfl) : PD X (.Call (.Name x p) (e :: es) [] pos) (dFn0 sp t) := by
  obtain ⟨f, fd, F, hm, Fn, B⟩ := C.ex
  refine PE.imp (pd_fn (dds := []) F hG hr hg hm Fn.kp B ⟨[], .nil, fun _ _ => .nil⟩ ha hdb he hpl) fun σ H Q ⟨e, s, hid, Qd, re, S, h, k⟩ => ⟨e, s, hid, Qd, re, S, ?_, k⟩
  have ee : (fun xs st1 => sp (xs ++ []) st1 Qd) = fun xs st1 => sp xs st1 Qd := by
    funext xs st1
    rw [List.append_nil]
  show t e s (fun xs st1 => sp (xs ++ []) st1 Qd)
  rw [ee]
  exact h
theorem pd_callK (C : Can X.prog X.w X.K X.mg X.base k x st ps sp) (hG : X.A.guards = some []) (hr : Room k X.A) (hg : Gl X x) (ix : List Nat)
    (hb : ∀ (kV doc pm : Value) (an : Option Addr) (cdv ct : Value) (ws : List Value), ws.length = ks.length → bindArgs (PySem.W.fnOf x x (defArgs st) (defBody st) (defScope st) .none kV doc pm an cdv ct) ⟨[], ks.zip ws⟩ = pure (ps.zip (pick ix ws)))
    (hkw : PDK X kws t)
    (hall : (backToKw pos (keywordEach kws X.env)).all (·.1.isSome) = true := by rfl) (hks : (backToKw pos (keywordEach kws X.env)).filterMap (·.1) = ks := by rfl)
    (hdb : (x == ("__debug__" : Str)) = false := by decide) (hpl : (backToKw pos (keywordEach kws X.env)).any (·.1.isNone) = false := by rfl) (hlen : ∀ e s Q, t e s Q → t e s fun xs s' => xs.length = ks.length ∧ Q xs s') : PD X (.Call (.Name x p) [] kws pos) (dFnK sp ix t) := by
  obtain ⟨f, fd, F, hm, Fn, B⟩ := C.ex
  obtain ⟨oc, od, kV, doc, pm, an, cd, ct, osl, rfl, lk, hcd⟩ := Fn.ex
  refine ⟨fun pins s σ H Q I ⟨en, sd, hid, Qd, re, S, h, g⟩ => ?_⟩
  refine wpAny_Call_Name_kw (ld_glob I hg hm (PySem.W.callWith_KW0 (h₀ := X.base) I.ok.mod.kin Fn.kp hall (thn (hkw.run pos pins s σ H (fun vs H1 => vs.length = ks.length ∧ upSp X.K sp (pick ix vs) H1 Q E0) I ⟨en, sd, hid, _, re, S, hlen _ _ _ h, fun vs H1 ds1 st1 F1 S1 r1 ⟨hl1, h1⟩ => ?_⟩) fun us s1 ⟨vs, H1, I1, r, hl, q⟩ => ⟨I1.kIn, ?_⟩) hpl) hdb)
  · exact ⟨(Paired.length r1).trans hl1, _, st1, hid, Qd, pick_pair r1 ix, S1, h1, Go.mono g F1⟩
  · rw [hks]
    exact run_fg F hG hr I1 (fun _ => .of_eq (hb kV doc pm an cd ct us (by rw [← r.length]; exact hl))) (pick_pair r ix) q
end
end DL
namespace DL
open PySem PySem.Spec PyProof.Rows L2
variable [Tabs]
/-! ### readings, run -/
theorem frz_d {Q : Kd} {x : PyData} {st : Sto} : frz Q (.d x) st = Q (.d x) st := propext ⟨fun h => h.elim _root_.id fun ⟨a, xs, z, _⟩ => (nomatch z), .inl⟩
theorem var_zero {d : D} {e : Ed} {st : Sto} {Q : Kd} : dVar 0 (some d :: e) st Q = Q d st := propext ⟨fun ⟨d', h, q⟩ => by
  cases h
  exact q, fun q => ⟨d, rfl, q⟩⟩
theorem var_succ {n : Nat} {x : Option D} {e : Ed} {st : Sto} {Q : Kd} : dVar (n + 1) (x :: e) st Q = dVar n e st Q := rfl
theorem var_set {i : Nat} {d : D} {e : Ed} {st : Sto} {Q : Kd} (h : i < e.length) : dVar i (e.set i (some d)) st Q = Q d st := propext ⟨fun ⟨d', h', q⟩ => by
  rw [List.getElem?_set_self h] at h'
  cases h'
  exact q, fun q => ⟨d, List.getElem?_set_self h, q⟩⟩
theorem var_ne {i j : Nat} {x : Option D} {e : Ed} {st : Sto} {Q : Kd} (h : j ≠ i) : dVar i (e.set j x) st Q = dVar i e st Q := by
  unfold dVar
  rw [List.getElem?_set_ne h]
theorem nil_go {e : Ed} {st : Sto} {Q : Ed → Sto → Prop} : hNil [] e st Q = Q e st := propext ⟨fun h => h.2, fun h => ⟨rfl, h⟩⟩
theorem put_put {st : Sto} {a : Addr} {xs ys : List D} : put (put st a xs) a ys = put st a ys := by
  funext b
  by_cases h : b = a
  · rw [h, put_same, put_same]
  · rw [put_ne h, put_ne h, put_ne h]
theorem own_some {d : PyData} {st : Sto} : (∀ a, D.d d = .own a → (st a).isSome = true) = True := propext ⟨fun _ => trivial, fun _ a z => nomatch z⟩
theorem kit_all {T : String} (hT : ∀ t ∈ ["NoneType", "bool", "int", "str", "tuple", "dict", "list"], (kitB t T).isSome = true) (d : D) : (kitB (tyD d) T).isSome = true := by
  refine hT _ ?_
  cases d with
  | own a => simp [tyD]
  | scr ns => simp [tyD]
  | d x => cases x <;> simp [tyD]
theorem kit_int (d : D) : ((kitB (tyD d) "int").isSome = true) = True := eq_true (kit_all (by decide +kernel) d)
theorem kit_bool (d : D) : ((kitB (tyD d) "bool").isSome = true) = True := eq_true (kit_all (by decide +kernel) d)
theorem kit_tuple (d : D) : ((kitB (tyD d) "tuple").isSome = true) = True := eq_true (kit_all (by decide +kernel) d)
theorem kit_str (d : D) : ((kitB (tyD d) "str").isSome = true) = True := eq_true (kit_all (by decide +kernel) d)
theorem is_int (x : PyData) : isT "int" (.d x) = match x with
    | .int _ => true
    | .bool _ => true
    | _ => false := by
  cases x with
  | none => exact (by decide +kernel : (kitB "NoneType" "int").getD false = false)
  | bool _ => exact (by decide +kernel : (kitB "bool" "int").getD false = true)
  | int _ => exact (by decide +kernel : (kitB "int" "int").getD false = true)
  | str _ => exact (by decide +kernel : (kitB "str" "int").getD false = false)
  | list _ => exact (by decide +kernel : (kitB "list" "int").getD false = false)
  | tuple _ => exact (by decide +kernel : (kitB "tuple" "int").getD false = false)
  | dict _ => exact (by decide +kernel : (kitB "dict" "int").getD false = false)
theorem is_bool (x : PyData) : isT "bool" (.d x) = match x with
    | .bool _ => true
    | _ => false := by
  cases x with
  | none => exact (by decide +kernel : (kitB "NoneType" "bool").getD false = false)
  | bool _ => exact (by decide +kernel : (kitB "bool" "bool").getD false = true)
  | int _ => exact (by decide +kernel : (kitB "int" "bool").getD false = false)
  | str _ => exact (by decide +kernel : (kitB "str" "bool").getD false = false)
  | list _ => exact (by decide +kernel : (kitB "list" "bool").getD false = false)
  | tuple _ => exact (by decide +kernel : (kitB "tuple" "bool").getD false = false)
  | dict _ => exact (by decide +kernel : (kitB "dict" "bool").getD false = false)
theorem is_tuple (x : PyData) : isT "tuple" (.d x) = match x with
    | .tuple _ => true
    | _ => false := by
  cases x with
  | none => exact (by decide +kernel : (kitB "NoneType" "tuple").getD false = false)
  | bool _ => exact (by decide +kernel : (kitB "bool" "tuple").getD false = false)
  | int _ => exact (by decide +kernel : (kitB "int" "tuple").getD false = false)
  | str _ => exact (by decide +kernel : (kitB "str" "tuple").getD false = false)
  | list _ => exact (by decide +kernel : (kitB "list" "tuple").getD false = false)
  | tuple _ => exact (by decide +kernel : (kitB "tuple" "tuple").getD false = true)
  | dict _ => exact (by decide +kernel : (kitB "dict" "tuple").getD false = false)
theorem is_str (x : PyData) : isT "str" (.d x) = match x with
    | .str _ => true
    | _ => false := by
  cases x with
  | none => exact (by decide +kernel : (kitB "NoneType" "str").getD false = false)
  | bool _ => exact (by decide +kernel : (kitB "bool" "str").getD false = false)
  | int _ => exact (by decide +kernel : (kitB "int" "str").getD false = false)
  | str _ => exact (by decide +kernel : (kitB "str" "str").getD false = true)
  | list _ => exact (by decide +kernel : (kitB "list" "str").getD false = false)
  | tuple _ => exact (by decide +kernel : (kitB "tuple" "str").getD false = false)
  | dict _ => exact (by decide +kernel : (kitB "dict" "str").getD false = false)
theorem line_small {n : Nat} (h : n ≤ 1000) : (n ≤ sizeLine) = True := eq_true (Nat.le_trans h (by decide))
theorem pures_nil : pures [] = some [] := rfl
theorem pures_cons {x : PyData} {r : List D} : pures (.d x :: r) = (pures r).map (x :: ·) := rfl
theorem no_own {p : Prop} : (∀ a : Addr, False → p) = True := propext ⟨fun _ => trivial, fun _ _ z => z.elim⟩
theorem no_own2 {p : Addr → Prop} : (∀ a : Addr, False → p a) = True := propext ⟨fun _ => trivial, fun _ _ z => z.elim⟩
theorem eqv_int {i j : Int} : (PyData.int i).eqv (.int j) = decide (i = j) := by
  show (i == j) = _
  rw [Bool.eq_iff_iff]
  simp
theorem sh_int {i : Int} : (SeqAt.shaped (.int i) = true) = True := eq_true (by simp [SeqAt.shaped, PyData.canLay0, PyData.depth])
theorem sh_bool {i : Bool} : (SeqAt.shaped (.bool i) = true) = True := eq_true (by simp [SeqAt.shaped, PyData.canLay0, PyData.depth])
theorem ixt_0 {a : PyData} {r : List PyData} {st : Sto} {Q : Kd} : rIxD (.d (.tuple (a :: r))) (.d (.int 0)) st Q = Q (.d a) st := propext ⟨fun h => by
  obtain ⟨v, h, q⟩ := h
  have e : atI (a :: r) 0 = some a := atI_nat (j := 0) rfl
  rw [e] at h
  cases h
  exact q, fun q => ⟨_, atI_nat (j := 0) rfl, q⟩⟩
theorem ixl_0 {a : PyData} {r : List PyData} {st : Sto} {Q : Kd} : rIxD (.d (.list (a :: r))) (.d (.int 0)) st Q = Q (.d a) st := propext ⟨fun h => by
  obtain ⟨ds, v, e, h, q⟩ := h
  cases e
  have e : atI ((a :: r).map D.d) 0 = some (D.d a) := atI_nat (j := 0) rfl
  rw [e] at h
  cases h
  exact q, fun q => ⟨_, _, rfl, atI_nat (j := 0) rfl, q⟩⟩
theorem ixt_1 {a b : PyData} {r : List PyData} {st : Sto} {Q : Kd} : rIxD (.d (.tuple (a :: b :: r))) (.d (.int 1)) st Q = Q (.d b) st := propext ⟨fun h => by
  obtain ⟨v, h, q⟩ := h
  have e : atI (a :: b :: r) 1 = some b := atI_nat (j := 1) rfl
  rw [e] at h
  cases h
  exact q, fun q => ⟨_, atI_nat (j := 1) rfl, q⟩⟩
theorem ixl_1 {a b : PyData} {r : List PyData} {st : Sto} {Q : Kd} : rIxD (.d (.list (a :: b :: r))) (.d (.int 1)) st Q = Q (.d b) st := propext ⟨fun h => by
  obtain ⟨ds, v, e, h, q⟩ := h
  cases e
  have e : atI ((a :: b :: r).map D.d) 1 = some (D.d b) := atI_nat (j := 1) rfl
  rw [e] at h
  cases h
  exact q, fun q => ⟨_, _, rfl, atI_nat (j := 1) rfl, q⟩⟩
theorem ixt_2 {a b c : PyData} {r : List PyData} {st : Sto} {Q : Kd} : rIxD (.d (.tuple (a :: b :: c :: r))) (.d (.int 2)) st Q = Q (.d c) st := propext ⟨fun h => by
  obtain ⟨v, h, q⟩ := h
  have e : atI (a :: b :: c :: r) 2 = some c := atI_nat (j := 2) rfl
  rw [e] at h
  cases h
  exact q, fun q => ⟨_, atI_nat (j := 2) rfl, q⟩⟩
theorem ixl_2 {a b c : PyData} {r : List PyData} {st : Sto} {Q : Kd} : rIxD (.d (.list (a :: b :: c :: r))) (.d (.int 2)) st Q = Q (.d c) st := propext ⟨fun h => by
  obtain ⟨ds, v, e, h, q⟩ := h
  cases e
  have e : atI ((a :: b :: c :: r).map D.d) 2 = some (D.d c) := atI_nat (j := 2) rfl
  rw [e] at h
  cases h
  exact q, fun q => ⟨_, _, rfl, atI_nat (j := 2) rfl, q⟩⟩
theorem ixt_3 {a b c d : PyData} {r : List PyData} {st : Sto} {Q : Kd} : rIxD (.d (.tuple (a :: b :: c :: d :: r))) (.d (.int 3)) st Q = Q (.d d) st := propext ⟨fun h => by
  obtain ⟨v, h, q⟩ := h
  have e : atI (a :: b :: c :: d :: r) 3 = some d := atI_nat (j := 3) rfl
  rw [e] at h
  cases h
  exact q, fun q => ⟨_, atI_nat (j := 3) rfl, q⟩⟩
theorem ixl_3 {a b c d : PyData} {r : List PyData} {st : Sto} {Q : Kd} : rIxD (.d (.list (a :: b :: c :: d :: r))) (.d (.int 3)) st Q = Q (.d d) st := propext ⟨fun h => by
  obtain ⟨ds, v, e, h, q⟩ := h
  cases e
  have e : atI ((a :: b :: c :: d :: r).map D.d) 3 = some (D.d d) := atI_nat (j := 3) rfl
  rw [e] at h
  cases h
  exact q, fun q => ⟨_, _, rfl, atI_nat (j := 3) rfl, q⟩⟩
theorem ixt_4 {a b c d e : PyData} {r : List PyData} {st : Sto} {Q : Kd} : rIxD (.d (.tuple (a :: b :: c :: d :: e :: r))) (.d (.int 4)) st Q = Q (.d e) st := propext ⟨fun h => by
  obtain ⟨v, h, q⟩ := h
  have e : atI (a :: b :: c :: d :: e :: r) 4 = some e := atI_nat (j := 4) rfl
  rw [e] at h
  cases h
  exact q, fun q => ⟨_, atI_nat (j := 4) rfl, q⟩⟩
theorem ixl_4 {a b c d e : PyData} {r : List PyData} {st : Sto} {Q : Kd} : rIxD (.d (.list (a :: b :: c :: d :: e :: r))) (.d (.int 4)) st Q = Q (.d e) st := propext ⟨fun h => by
  obtain ⟨ds, v, e, h, q⟩ := h
  cases e
  have e : atI ((a :: b :: c :: d :: e :: r).map D.d) 4 = some (D.d e) := atI_nat (j := 4) rfl
  rw [e] at h
  cases h
  exact q, fun q => ⟨_, _, rfl, atI_nat (j := 4) rfl, q⟩⟩
/-- a comprehension whose element is a function of the item -/
theorem lcV_pure {ti : TId} {i : Nat} {te : TEd} {e : Ed} {st : Sto} {Q : Kd} (xs : List D) (f : D → PyData) (hti : ∀ R : ItD → Sto → Prop, R ⟨xs, none⟩ st → ti e st R) (hl : xs.length < sizeLine)
    (hf : ∀ d ∈ xs, ∀ K : Kd, K (.d (f d)) st → te (e.set i (some d)) st K) (q : Q (.d (.list (xs.map f))) st) : dLcV ti i dYes te e st Q := by
  refine hti _ ⟨fun j acc st' => st' = st ∧ j ≤ xs.length ∧ acc = (xs.take j).map fun d => D.d (f d), ⟨rfl, Nat.zero_le _, rfl⟩, ?_⟩
  rintro j acc st' ⟨rfl, hj, rfl⟩
  refine ⟨(fun a ds z => nomatch z), fun hd => ?_, fun d hd => ?_⟩
  · have e1 : xs.take j = xs := List.take_of_length_le hd
    rw [e1]
    refine ⟨xs.map f, ?_, q⟩
    rw [show (xs.map fun d => D.d (f d)) = (xs.map f).map D.d by rw [List.map_map]; rfl]
    exact pures_map _
  · have hd' : xs[j]? = some d := hd
    have hlt : j < xs.length := (List.getElem?_eq_some_iff.mp hd').1
    refine (show dYes (e.set i (some d)) st' (fun b s2 => if b = true then te (e.set i (some d)) s2 _ else _) from ?_)
    refine hf d (List.mem_of_getElem? hd') _ ⟨?_, rfl, hlt, ?_⟩
    · rw [List.length_map, List.length_take]
      omega
    · rw [List.take_add_one, hd', List.map_append]
      rfl
/-! ### written data -/
def Val (te : TEd) (e : Ed) : Prop := ∃ x, ∀ st Q, Q (.d x) st → te e st Q
def Vls (t : TAd) (e : Ed) (n : Nat) : Prop := ∃ xs : List PyData, xs.length = n ∧ ∀ st Q, Q (xs.map D.d) st → t e st Q
theorem val_c {x : PyData} {e : Ed} : Val (dC x) e := ⟨x, fun _ _ q => q⟩
theorem val_dict {ps : List (PyData × PyData)} {e : Ed} : Val (dDict ps) e := ⟨.dict ps, fun _ _ q => q⟩
theorem val_var {i : Nat} {x : PyData} {e : Ed} (h : e[i]? = some (some (.d x))) : Val (dVar i) e := ⟨x, fun _ _ q => ⟨_, h, q⟩⟩
theorem val_neg {i : Int} {e : Ed} : Val (dNeg (dC (.int i))) e := ⟨.int (-i), fun _ _ q => q⟩
theorem val_pow {i j : Int} {e : Ed} (h : CPow i j) : Val (dBin rPowD (dC (.int i)) (dC (.int j))) e := ⟨.int (i ^ j.toNat), fun _ _ q => ⟨h, q⟩⟩
theorem vls_nil {e : Ed} : Vls dNil e 0 := ⟨[], rfl, fun _ _ q => q⟩
theorem vls_cons {te : TEd} {t : TAd} {e : Ed} {n : Nat} (h : Val te e) (r : Vls t e n) : Vls (dCons te t) e (n + 1) := by
  obtain ⟨x, hx⟩ := h
  obtain ⟨xs, hl, hr⟩ := r
  exact ⟨x :: xs, by rw [List.length_cons, hl], fun st Q q => hx _ _ (hr _ _ q)⟩
theorem val_tup {t : TAd} {e : Ed} {n : Nat} (r : Vls t e n) (hn : n ≤ 1000) : Val (dTup t) e := by
  obtain ⟨xs, hl, hr⟩ := r
  refine ⟨.tuple xs, fun st Q q => hr _ _ ?_⟩
  show match pures (xs.map D.d) with
    | some ys => (xs.map D.d).length ≤ sizeLine ∧ Q (.d (.tuple ys)) st
    | none => False
  rw [pures_map]
  exact ⟨by rw [List.length_map, hl]; exact Nat.le_trans hn (by decide), q⟩
theorem val_lst {t : TAd} {e : Ed} {n : Nat} (r : Vls t e n) (hn : n ≤ 1000) : Val (dLst t) e := by
  obtain ⟨xs, hl, hr⟩ := r
  exact ⟨.list xs, fun st Q q => hr _ _ ⟨by rw [List.length_map, hl]; exact Nat.le_trans hn (by decide), .inl ⟨xs, pures_map xs, q⟩⟩⟩
theorem val_lstV {t : TAd} {e : Ed} {n : Nat} (r : Vls t e n) (hn : n ≤ 1000) : Val (dLstV t) e := by
  obtain ⟨xs, hl, hr⟩ := r
  refine ⟨.list xs, fun st Q q => hr _ _ ?_⟩
  show match pures (xs.map D.d) with
    | some ys => (xs.map D.d).length ≤ sizeLine ∧ Q (.d (.list ys)) st
    | none => False
  rw [pures_map]
  exact ⟨by rw [List.length_map, hl]; exact Nat.le_trans hn (by decide), q⟩
theorem lstV_then {t : TAd} {e : Ed} {st : Sto} {Q : Kd} {n : Nat} (r : Vls t e n) (hn : n ≤ 1000) (h : ∀ xs : List PyData, xs.length = n → Q (.d (.list xs)) st) : dLstV t e st Q := by
  obtain ⟨xs, hl, hr⟩ := r
  refine hr _ _ ?_
  show match pures (xs.map D.d) with
    | some ys => (xs.map D.d).length ≤ sizeLine ∧ Q (.d (.list ys)) st
    | none => False
  rw [pures_map]
  exact ⟨by rw [List.length_map, hl]; exact Nat.le_trans hn (by decide), h xs hl⟩
theorem lst_then {t : TAd} {e : Ed} {st : Sto} {Q : Kd} {n : Nat} (r : Vls t e n) (hn : n ≤ 1000) (h : ∀ xs : List PyData, xs.length = n → Q (.d (.list xs)) st) : dLst t e st Q := by
  obtain ⟨xs, hl, hr⟩ := r
  exact hr _ _ ⟨by rw [List.length_map, hl]; exact Nat.le_trans hn (by decide), .inl ⟨xs, pures_map xs, h xs hl⟩⟩
end DL
local macro_rules | `(tactic| walk_at "val") => `(tactic| repeat' (first | exact DL.vls_nil | apply DL.vls_cons | exact DL.val_c | exact DL.val_dict | exact DL.val_neg | exact DL.val_var rfl | apply DL.val_tup | apply DL.val_lst | apply DL.val_lstV | exact DL.val_pow ⟨by decide, by decide, by decide⟩ | decide))
local macro_rules | `(tactic| walk_at "st") => `(tactic| simp only [DL.startD, List.map_cons, List.map_nil, List.length_cons, List.length_nil, Nat.reduceAdd, Nat.reduceSub, List.replicate_succ, List.replicate_zero, List.cons_append, List.nil_append, List.append_nil, Nat.sub_self, Nat.zero_add])
local macro_rules | `(tactic| walk_at "go") => `(tactic| simp only [↓DL.dSeq, ↓DL.dNext, ↓DL.dAsg, ↓DL.dRet, ↓DL.dRetN, ↓DL.dIfS, ↓DL.dDrop, ↓DL.dBin, ↓DL.dCons, ↓DL.dNil, ↓DL.dTup, ↓DL.dC, ↓DL.dNeg, ↓DL.dAnd, ↓DL.dOr, ↓DL.dNot, ↓DL.dIf, ↓DL.dTst, ↓DL.asB, ↓DL.dChain, ↓DL.dAndT, ↓DL.dOrT, ↓DL.dNotT, ↓DL.dCall, ↓DL.dFn0, ↓DL.dFnK, ↓DL.dIs, ↓DL.dSl, ↓DL.dNoP, ↓DL.dPart, ↓DL.dRev, ↓DL.dLst, ↓DL.dLstV, ↓DL.cListV, ↓DL.dDict, ↓DL.dPar, ↓DL.dPar3, ↓DL.hTup, ↓DL.hCons, ↓DL.nil_go, ↓DL.hName, ↓DL.hSub, ↓DL.rI2, ↓DL.rSubD, ↓DL.rMulD, ↓DL.rDivD, ↓DL.rModD, ↓DL.rPowD, ↓DL.rLtD, ↓DL.rLeD, ↓DL.rGtD, ↓DL.rGeD, ↓DL.rAddD, ↓DL.ixt_0, ↓DL.ixt_1, ↓DL.ixt_2, ↓DL.ixt_3, ↓DL.ixt_4, ↓DL.ixl_0, ↓DL.ixl_1, ↓DL.ixl_2, ↓DL.ixl_3, ↓DL.ixl_4, ↓DL.rEqV, ↓DL.rNeV, ↓DL.rSlD, ↓DL.cLen, ↓DL.cAbs, ↓DL.cInt, ↓DL.cStrI, ↓DL.cDivmod, ↓DL.cMin, ↓DL.cMax, ↓DL.cGcd, ↓DL.cLcm, ↓DL.cAll, ↓DL.cRepr, ↓DL.cList, ↓DL.cTuple, ↓DL.rC1, ↓DL.rC2, ↓DL.dNever, ↓DL.dIter, ↓DL.dRng1, ↓DL.dRng2, ↓DL.dYes,
  ↓DL.frz_d, ↓DL.var_zero, ↓DL.var_succ, ↓DL.var_set, ↓DL.var_ne, DL.own_some, DL.no_own2, DL.eqv_int, DL.sh_int, DL.sh_bool, DL.kit_int, DL.kit_bool, DL.kit_tuple, DL.kit_str, DL.is_int, DL.is_bool, DL.is_tuple, DL.is_str, DL.pures_nil, DL.pures_cons, Option.map_some, List.length_cons, List.length_nil, List.length_set, List.map_cons, List.map_nil, DL.pick, List.filterMap_cons, List.filterMap_nil,
  true_and, and_true, ite_true, ite_false, if_true, if_false, reduceIte, reduceCtorEq, ne_eq, not_false_eq_true, Nat.reduceAdd, Nat.reduceLT, Nat.reduceEqDiff, decide_eq_true_eq, Bool.not_true, Bool.not_false, Bool.false_eq_true, eq_self])
namespace DL
open PySem PySem.Spec PyProof.Rows L2
variable [Tabs]
/-! ### x in xs, x not in xs -/
def flatP : PyData → Bool
  | .none => true
  | .bool _ => true
  | .int _ => true
  | .str _ => true
  | _ => false
theorem bne_ite (neg b : Bool) : (if neg = true then !b else b) = (neg != b) := by cases neg <;> cases b <;> rfl
section
variable {K : PySem.W.Frag} {st : Sto} {H : Hp}
theorem flat_v {v : V} {x : PyData} (r : Dv K st H v x) (f : flatP x = true) : flatV v = true := by
  cases r <;> first | rfl | exact absurd f Bool.false_ne_true
theorem flat_vs : ∀ {vs : List V} {xs : List PyData}, Dvs K st H vs xs → xs.all flatP = true → vs.all flatV = true
  | _, _, .nil, _ => rfl
  | _, _, .cons h t, f => by
    rw [List.all_cons, Bool.and_eq_true] at f ⊢
    exact ⟨flat_v h f.1, flat_vs t f.2⟩
theorem flat_eq {v w : V} {x y : PyData} (r : Dv K st H v x) (q : Dv K st H w y) (f : flatP x = true) (g : flatP y = true) : eqV v w = PyData.eqv x y := by
  cases r <;> cases q <;> first | (simp only [eqV, PyData.eqv]; done) | exact absurd f Bool.false_ne_true | exact absurd g Bool.false_ne_true | rfl
theorem flat_in {v : V} {x : PyData} (r : Dv K st H v x) (f : flatP x = true) : ∀ {vs : List V} {xs : List PyData}, Dvs K st H vs xs → xs.all flatP = true → inV v vs = xs.any fun z => PyData.eqv z x
  | _, _, .nil, _ => rfl
  | _, _, .cons h t, g => by
    rw [List.all_cons, Bool.and_eq_true] at g
    show (eqV _ v || inV v _) = (PyData.eqv _ x || _)
    rw [flat_eq h r g.1 f, flat_in r f t g.2]
end
def rInV (neg : Bool) : R2d := fun x y st Q => match x with
  | .d a => match y with
    | .d (.tuple xs) => flatP a = true ∧ xs.all flatP = true ∧ Q (.d (.bool (neg != xs.any fun z => PyData.eqv z a))) st
    | y => ∃ xs : List PyData, lstOf y st = some (xs.map D.d) ∧ ((flatP a = true ∧ xs.all flatP = true) ∨ (SeqAt.shaped a = true ∧ SeqAt.shaped (.list xs) = true)) ∧ Q (.d (.bool (neg != xs.any fun z => PyData.eqv z a))) st
  | _ => False
theorem dpAll_of {K : PySem.W.Frag} {st : Sto} {H : Hp} {vs : List V} {xs : List PyData} (r : Dvs K st H vs xs) (h : SeqAt.shaped (.list xs) = true) : DpAll K H vs xs := Dvs.dp r (by simpa [PyData.hasDict] using noDict h)
section
variable {X : Cx}
theorem o_in (hu : X.A.units + 65 < cLine) : OpR X (compareOp .In) (upR X.K (rInV false)) := fun pins s σ H x y v u Q I rx ry ⟨dx, dy, st, hid, Qd, hx, hy, S, w, k⟩ => by
  cases hx with
  | d hx =>
    rename_i a
    dsimp only [rInV] at w
    split at w
    · obtain ⟨p, vs, rfl, h1, r1⟩ := tup_at hy
      refine op_in_seq pins s σ H _ _ v u Q I rx ry ⟨p, vs, rfl, .inr h1, flat_v hx w.1, flat_vs r1 w.2.1, ?_⟩
      rw [bne_ite, flat_in hx w.1 r1 w.2.1]
      exact k.now S (.d (.bl _)) w.2.2
    · obtain ⟨xs, e, c, q⟩ := w
      obtain ⟨p, vs, rfl, h1, r1⟩ := lstOf_at hy S e
      have r1 := Dvs.of r1
      rcases c with c | c
      · refine op_in_seq pins s σ H _ _ v u Q I rx ry ⟨p, vs, rfl, .inl h1, flat_v hx c.1, flat_vs r1 c.2, ?_⟩
        rw [bne_ite, flat_in hx c.1 r1 c.2]
        exact k.now S (.d (.bl _)) q
      · refine op_inD hu pins s σ H _ _ v u Q I rx ry ⟨a, xs, hx.dp (noDict c.1), .lst h1 (dpAll_of r1 c.2), c.1, c.2, ?_⟩
        rw [Bool.false_bne] at q
        exact k.now S (.d (.bl _)) q
  | _ => exact w.elim
theorem o_notin (hu : X.A.units + 65 < cLine) : OpR X (compareOp .NotIn) (upR X.K (rInV true)) := fun pins s σ H x y v u Q I rx ry ⟨dx, dy, st, hid, Qd, hx, hy, S, w, k⟩ => by
  cases hx with
  | d hx =>
    rename_i a
    dsimp only [rInV] at w
    split at w
    · obtain ⟨p, vs, rfl, h1, r1⟩ := tup_at hy
      refine op_notIn_seq pins s σ H _ _ v u Q I rx ry ⟨p, vs, rfl, .inr h1, flat_v hx w.1, flat_vs r1 w.2.1, ?_⟩
      rw [bne_ite, flat_in hx w.1 r1 w.2.1]
      exact k.now S (.d (.bl _)) w.2.2
    · obtain ⟨xs, e, c, q⟩ := w
      obtain ⟨p, vs, rfl, h1, r1⟩ := lstOf_at hy S e
      have r1 := Dvs.of r1
      rcases c with c | c
      · refine op_notIn_seq pins s σ H _ _ v u Q I rx ry ⟨p, vs, rfl, .inl h1, flat_v hx c.1, flat_vs r1 c.2, ?_⟩
        rw [bne_ite, flat_in hx c.1 r1 c.2]
        exact k.now S (.d (.bl _)) q
      · refine op_notInD hu pins s σ H _ _ v u Q I rx ry ⟨a, xs, hx.dp (noDict c.1), .lst h1 (dpAll_of r1 c.2), c.1, c.2, ?_⟩
        rw [Bool.true_bne] at q
        exact k.now S (.d (.bl _)) q
  | _ => exact w.elim
/-! ### i * j, xs * n -/
def rMulX : R2d := fun x y st Q => match x, y with
  | .d (.int i), .d (.int j) => CMulW i j ∧ Q (.d (.int (i * j))) st
  | .d (.list xs), .d (.int n) => 0 ≤ n ∧ n < 1000 ∧ xs.length * n.toNat ≤ sizeLine ∧ Q (.d (.list (List.replicate n.toNat xs).flatten)) st
  | _, _ => False
theorem dvs_rep {K : PySem.W.Frag} {st : Sto} {H : Hp} {vs : List V} {xs : List PyData} (r : Dvs K st H vs xs) : ∀ n : Nat, Dvs K st H (List.replicate n vs).flatten (List.replicate n xs).flatten
  | 0 => .nil
  | n + 1 => by
    rw [List.replicate_succ, List.replicate_succ, List.flatten_cons, List.flatten_cons]
    exact r.append (dvs_rep r n)
theorem o_mulX : OpR X (binaryOp .Mult) (upR X.K rMulX) := fun pins s σ H x y v u Q I rx ry ⟨dx, dy, st, hid, Qd, hx, hy, S, w, k⟩ => by
  unfold rMulX at w
  split at w
  · rename_i i j
    exact o_mul pins s σ H x y v u Q I rx ry ⟨_, _, st, hid, Qd, hx, hy, S, w, k⟩
  · rename_i xs n
    obtain ⟨h0, h1, h2, q⟩ := w
    obtain ⟨a, vs, rfl, h3, r1⟩ := wlOf_at hx S rfl
    have r1 := Dvs.of r1
    cases int_at hy
    refine op_rep pins s σ H _ _ v u Q I rx ry ⟨a, n, vs, rfl, rfl, h3, by omega, by omega, by rw [r1.length]; exact h2, fun p hp => ?_⟩
    exact k.new S hp (.d (.lst upd_same (S.sr.free0 hp) ((dvs_rep r1 _).mono (fr_new hp) S.sr))) q
  · exact w.elim
end
/-! ### enumerate(xs) -/
/-- the tuple at a as it stands at each turn, each item in a new pair -/
def IteT (K : PySem.W.Frag) (a : Addr) : It :=
  ⟨fun i H => ∃ (xs : List V) (x : V), SqT K H a xs ∧ xs[i]? = some x, fun i H v H' => ∃ T x, v = .ref T ∧ H T = none ∧ H' = upd H T (.tup [.int (i : Nat), x]) ∧ ∀ xs, SqT K H a xs → xs[i]? = some x, fun i H => ∃ xs : List V, SqT K H a xs ∧ xs.length ≤ i⟩
section
variable {prog : Program} {w : World} {A : Around} {E : Value → Shared → Prop} {s : Shared}
theorem meets_enumerate_new1 {v : Value} {o : Obj} {H : Heap → Prop} (B : Begins v o H) :
    Meets (Builtin.«enumerate.__new__» ⟨[.type "enumerate", v], []⟩) (fun _ R s => H s.heap ∧
      R (.ok (.ret (.ref (s.heap.push o).objs.size))) { s with heap := (s.heap.push o).push { cls := .type "enumerate", data := .fields #[.none, .bool false, .ref s.heap.objs.size, rawInt 0, .none, .none] } }) :=
  .of_wp fun prog w A R s h => by
    obtain ⟨hp, g, d, tk, os⟩ := s; obtain ⟨h1, h⟩ := h
    have hsub := sub_enumerate
    have q1 : ∀ {A' : Around} {E : Value → Shared → Prop} {Q : Value → Shared → Prop}, Q (.ref hp.objs.size) ⟨hp.push o, g, d, tk, os⟩ → wpAny (model prog w) A' (pyIter v) Q E ⟨hp, g, d, tk, os⟩ :=
      fun q => B.iter prog w _ _ ⟨hp, g, d, tk, os⟩ _ h1 q
    wp_walk using q1
    refine wpAny_stack_any fun st => wpAny_pure ?_
    split
    · rename_i c _ _ _ _ _
      cases (c == Value.type "enumerate")
      · wp_walk using q1
        exact ⟨_, rfl, h⟩
      · wp_walk using q1
        exact ⟨_, rfl, h⟩
    · wp_walk using q1
      exact ⟨_, rfl, h⟩
theorem call_enumerate_1B {v : Value} {o : Obj} {H : Heap → Prop} {Q : Value → Shared → Prop} (B : Begins v o H) (h1 : H s.heap)
    (h : ∀ h', IsEnum h' (s.heap.objs.size + 1) s.heap.objs.size 0 .none → h'.get? s.heap.objs.size = some o → h'.objs.size = s.heap.objs.size + 2 →
      (∀ b o, s.heap.get? b = some o → h'.get? b = some o) → Q (.ref (s.heap.objs.size + 1)) { s with heap := h' }) :
    wpAny (model prog w) A (call (.type "enumerate") [v]) Q E s := by
  refine callType_new F.called_enumerate (by decide) (F.typeCall_enumerate_1 _) (F.newCall_enumerate_1 _) (fun obj => F.args_object_init_2 obj _) F.entry_enumerate_new
    (meets_enumerate_new1 B) ⟨h1, ?_⟩
  have hz : (s.heap.push o).objs.size = s.heap.objs.size + 1 := Heap.size_push ..
  show _ ∧ _
  rw [hz]
  have he : IsEnum ((s.heap.push o).push { cls := .type "enumerate", data := .fields #[.none, .bool false, .ref s.heap.objs.size, rawInt 0, .none, .none] }) (s.heap.objs.size + 1) s.heap.objs.size 0 .none := by
    have := Heap.get?_push_size (s.heap.push o) (o := { cls := .type "enumerate", data := .fields #[.none, .bool false, .ref s.heap.objs.size, rawInt 0, .none, .none] }) rfl
    rw [hz] at this; exact this
  refine ⟨⟨_, he, rfl⟩, h _ he (Heap.get?_push_of_some _ (Heap.get?_push_size _ B.free)) (by rw [Heap.size_push, hz]) fun b o x => Heap.get?_push_of_some _ (Heap.get?_push_of_some _ x)⟩
end
theorem turn_enumT {P : Program} {w : World} {K : PySem.W.Frag} {elts : List Expr} {kk : Nat} {tpos : Pos} (a e it : Addr) :
    Turn P w K (.Tuple elts kk tpos) (IteT K a) [e, it] e (fun i h => (∃ old, IsEnum h e it ((i : Nat) : Int) old) ∧ h.IsTupleIter it a i ∧ e ≠ it ∧ a ≠ it ∧ a ≠ e) where
  mem := by simp
  obj := fun i h st b hb => by
    obtain ⟨⟨old, he⟩, ⟨o, ho, hc, hd⟩, _⟩ := st
    have e' : b = e ∨ b = it := by simpa using hb
    rcases e' with z | z
    · rw [z]; exact ⟨_, he, fun v q => nomatch q⟩
    · rw [z]; exact ⟨o, ho, fun v q => by rw [hd] at q; cases q⟩
  keep := fun i h h' st k => let ⟨⟨old, he⟩, hi, hne⟩ := st; ⟨⟨old, k e (by simp) _ he⟩, hi.at fun o q => k it (by simp) o q, hne⟩
  item := by
    intro X hP hw hK hc i pins s σ H E I hf st hg
    subst hP hw hK
    obtain ⟨⟨old, he⟩, hit, hne, hai, hae⟩ := st
    obtain ⟨xs, x, hq, hx⟩ := hg
    obtain ⟨its, rv, p, hz⟩ := I.tuple hq
    obtain ⟨u, hu, ru⟩ := rv.get hx
    have hel : e < s.heap.objs.size := Heap.lt_size he
    have hil : it < s.heap.objs.size := by obtain ⟨_, q, _⟩ := hit; exact Heap.lt_size q
    have p : s.heap.IsTuple a its.toArray := p
    have D := Draws.tuple (prog := X.prog) (w := X.w) (A := X.A.in1) (I.ok.hd hc) it a hai its.toArray
    have hlt : i < its.toArray.size := by
      have := (List.getElem?_eq_some_iff.mp hu).1
      rw [List.size_toArray]
      exact this
    refine wpAny_pyNext_enum_itemC D he ⟨hit, p⟩ hlt hne (by simp [hne, Ne.symm hae]) fun x' h' tk hx' ho hst' hT hsz hk => ?_
    have ex : x' = u := by
      have h2 : its.toArray[i]? = some u := by simpa using hu
      rw [hx'] at h2
      exact Option.some.inj h2
    subst ex
    refine ⟨_, rfl, wpAny_letOwnedTupleGo_enum (s := { s with heap := h', toks := tk + 1 }) ho fun h'' he' sb => ?_⟩
    have hT2 : h''.get? s.heap.objs.size = some { cls := .type "tuple", data := .seq #[.int i tk, x'] } := (sb.2 _ (Nat.ne_of_gt hel)).trans hT
    have new : ObjOk X.prog X.w (upd H s.heap.objs.size (.tup [.int (i : Nat), x])) h'' s.heap.objs.size (.tup [.int (i : Nat), x]) :=
      ⟨by show 2 ≤ sizeLine; decide, [.int i tk, x'], .cons ⟨_, rfl⟩ (.cons ru .nil), ⟨_, hT2, rfl, _, rfl⟩⟩
    have I1 : Inv X pins σ (upd H s.heap.objs.size (.tup [.int (i : Nat), x])) { s with heap := h'', toks := tk + 1 } :=
      I.turnedNew (ch := [e, it]) (fun b ob hb q => (sb.2 b (fun z => hb (by simp [z]))).trans (hk b ob (fun z => hb (by simp [z])) (fun z => hb (by simp [z])) q)) hf (Nat.le_refl _) new
    refine ⟨.ref s.heap.objs.size, _, I1, rfl, ⟨_, x, rfl, I.hok.fresh (Nat.le_refl _), rfl, fun ys hy => by rw [I.tuple_inj hy hq]; exact hx⟩, ⟨⟨x', ?_⟩, hst'.1.at fun o q => (sb.2 it (Ne.symm hne)).trans q, hne, hai, hae⟩, fun b hb => ?_⟩
    · have e1 : ((i + 1 : Nat) : Int) = (i : Int) + 1 := by omega
      rw [e1]; exact he'
    · have hb' : b < s.heap.objs.size := by
        have e' : b = e ∨ b = it := by simpa using hb
        rcases e' with z | z
        · rw [z]; exact hel
        · rw [z]; exact hil
      rw [upd_ne (Nat.ne_of_lt hb')]
      exact (hf b hb).1
  done := by
    intro X hP hw hK hc i pins s σ H E I hf st hg
    subst hP hw hK
    obtain ⟨⟨old, he⟩, hit, hne, hai, hae⟩ := st
    obtain ⟨xs, hq, hx⟩ := hg
    obtain ⟨its, rv, p, hz⟩ := I.tuple hq
    obtain ⟨f0, f1, f2, f3, f4, f5⟩ := hf it (by simp)
    have hl := rv.length
    have p : s.heap.IsTuple a its.toArray := p
    have hT : s.TypeIs (.ref e) "enumerate" := ⟨_, he, rfl⟩
    unfold pyNext
    refine wpAny_bind (wpAny_attempt (wpAny_callSpecial?_slot (name := Str.ofString "__next__") hT F.slot_enumerate_next
      (wpAny_call_entry F.slot_enumerate_next hT F.entry_enumerate_next ?_ (F.args_enumerate_next_1 _))))
    show wpAny _ _ (field (.ref e) 2 >>= _) _ _ _
    refine wpAny_bind (wpAny_field he rfl (x := .ref it) rfl ?_)
    refine wpAny_bind (wpAny_nextOf_tuple_end (I.ok.hd hc) hit p (by simp; omega) fun h' x eb hx' => ?_)
    obtain ⟨o, ho, hc⟩ := hx'
    refine wpAny_bind (wpAny_isInstance (T := "StopIteration") (b := true) ⟨o, ho, hc⟩ isSubtype_stop ?_)
    exact wpAny_pure ⟨rfl, I.turned (t' := s.toks) (fun b o hb q => eb b o hb q) f0 f1 f3 f4 f5⟩
  self := fun A i s Q E st h => let ⟨⟨_, he⟩, _⟩ := st; wpAny_pyIter_enum he h
/-- enumerate(xs), of a list or a tuple -/
def enumD (ds : List D) : Option (List D) := (pures ds).map fun xs => (List.range xs.length).zipWith (fun (i : Nat) x => D.d (.tuple [.int i, x])) xs
def dEnum (t : TAd) : TId := fun e st R => t e st fun ds st1 => match ds with
  | [.d (.tuple xs)] => R ⟨(List.range xs.length).zipWith (fun (i : Nat) x => D.d (.tuple [.int i, x])) xs, none⟩ st1
  | [.d (.list xs)] => R ⟨(List.range xs.length).zipWith (fun (i : Nat) x => D.d (.tuple [.int i, x])) xs, none⟩ st1
  | [.own a] => ∃ xs : List PyData, st1 a = some (xs.map D.d) ∧ R ⟨(List.range xs.length).zipWith (fun (i : Nat) x => D.d (.tuple [.int i, x])) xs, some (a, xs.map D.d)⟩ st1
  | _ => False
theorem enum_get {xs : List PyData} {i : Nat} {d : D} (h : ((List.range xs.length).zipWith (fun (i : Nat) x => D.d (.tuple [.int i, x])) xs)[i]? = some d) : ∃ x, xs[i]? = some x ∧ d = .d (.tuple [.int i, x]) := by
  rw [List.getElem?_zipWith] at h
  cases e : xs[i]? with
  | none =>
    rw [e] at h
    cases q : (List.range xs.length)[i]? <;> (rw [q] at h; cases h)
  | some x =>
    have hi : i < xs.length := (List.getElem?_eq_some_iff.mp e).1
    rw [e, List.getElem?_range hi] at h
    exact ⟨x, rfl, (Option.some.inj h).symm⟩
theorem enum_len {xs : List PyData} : ((List.range xs.length).zipWith (fun (i : Nat) x => D.d (.tuple [.int i, x])) xs).length = xs.length := by
  rw [List.length_zipWith, List.length_range, Nat.min_self]
section
variable {K : PySem.W.Frag} {F0 : Sto} {H0 : Hp} {a : Addr}
theorem pair_new {F : Sto} {H : Hp} (S : SR K F H) {T : Addr} {i : Nat} {v : V} {x : PyData} (hT : H T = none) (r : Dv K F H v x) : Fr F H F (upd H T (.tup [.int (i : Nat), v])) ∧ SR K F (upd H T (.tup [.int (i : Nat), v])) ∧ DvD K F (upd H T (.tup [.int (i : Nat), v])) (.ref T) (.d (.tuple [.int i, x])) :=
  ⟨fr_new hT, sr_new S hT, .d (.tup (.inl (.inl upd_same)) (.cons (.int _) (.cons (r.mono (fr_new hT) S) .nil)))⟩
theorem itok_enT {vs : List V} {xs : List PyData} (h : SqT K H0 a vs) (r : Dvs K F0 H0 vs xs) (S0 : SR K F0 H0) : ItOk K F0 H0 (IteT K a) ⟨(List.range xs.length).zipWith (fun (i : Nat) x => D.d (.tuple [.int i, x])) xs, none⟩ := fun i F H fr S _ => by
  have h' := sqT_mono fr S0 h
  have r' := r.mono fr S0
  refine ⟨fun d e => ?_, fun z => ⟨vs, h', by
    have z' : _ ≤ i := z
    rw [enum_len] at z'
    rw [r'.length]
    exact z'⟩⟩
  obtain ⟨x, ex, rfl⟩ := enum_get e
  obtain ⟨v, e1, r1⟩ := r'.get ex
  refine ⟨⟨vs, v, h', e1⟩, fun y H' ⟨T, w, ey, hT, eh, hy⟩ => ?_⟩
  subst ey eh
  have e2 := hy vs h'
  rw [e1] at e2
  cases e2
  exact pair_new S hT r1
theorem itok_enL {vs : List V} {xs : List PyData} (h : H0 a = some (.lst vs)) (f : F0 a = none) (r : Dvs K F0 H0 vs xs) (S0 : SR K F0 H0) : ItOk K F0 H0 (Ite K a) ⟨(List.range xs.length).zipWith (fun (i : Nat) x => D.d (.tuple [.int i, x])) xs, none⟩ := fun i F H fr S _ => by
  have h' : SqL K H a vs := .inl (.inl (fr a _ h f fun _ z => nomatch z).1)
  have r' := r.mono fr S0
  refine ⟨fun d e => ?_, fun z => ⟨vs, h', by
    have z' : _ ≤ i := z
    rw [enum_len] at z'
    rw [r'.length]
    exact z'⟩⟩
  obtain ⟨x, ex, rfl⟩ := enum_get e
  obtain ⟨v, e1, r1⟩ := r'.get ex
  refine ⟨⟨vs, v, h', e1⟩, fun y H' ⟨T, w, ey, hT, eh, hy⟩ => ?_⟩
  subst ey eh
  have e2 := hy vs h'
  rw [e1] at e2
  cases e2
  exact pair_new S hT r1
theorem itok_enO {xs : List PyData} : ItOk K F0 H0 (Ite K a) ⟨(List.range xs.length).zipWith (fun (i : Nat) x => D.d (.tuple [.int i, x])) xs, some (a, xs.map D.d)⟩ := fun i F H fr S at_ => by
  obtain ⟨vs, h, r⟩ := S a _ (at_ a _ rfl)
  have h' : SqL K H a vs := .inl (.inl h)
  have r' := Dvs.of r
  refine ⟨fun d e => ?_, fun z => ⟨vs, h', by
    have z' : _ ≤ i := z
    rw [enum_len] at z'
    rw [r'.length]
    exact z'⟩⟩
  obtain ⟨x, ex, rfl⟩ := enum_get e
  obtain ⟨v, e1, r1⟩ := r'.get ex
  refine ⟨⟨vs, v, h', e1⟩, fun y H' ⟨T, w, ey, hT, eh, hy⟩ => ?_⟩
  subst ey eh
  have e2 := hy vs h'
  rw [e1] at e2
  cases e2
  exact pair_new S hT r1
end
theorem pdi_enum {X : Cx} {e : Expr} {ta : TAd} {p pos tpos : Pos} {elts : List Expr} {kk : Nat} (hg : Gl X "enumerate") (hm : X.mg "enumerate" = none) (ha : PDA X [e] ta) (hs : starEach [e] X.env = [(false, eval e X.env)] := by rfl) :
    PDI X (.Tuple elts kk tpos) (.Call (.Name "enumerate" p) [e] [] pos) (dEnum ta) := by
  refine ⟨fun pins s σ H R I ⟨en, st, hid, Rd, re, S, h, k⟩ => ?_⟩
  refine Call_ (ld_blt I hg hm boot_enumerate (PyProof.Rows.callWith_type1 (thn (ha.run pos pins s σ H (fun vs H1 => ∃ a, vs = [.ref a] ∧ ((∃ xs, SqL X.K H1 a xs) ∧ R (Ite X.K a) H1 ∨ (∃ xs, SqT X.K H1 a xs) ∧ R (IteT X.K a) H1)) I ⟨en, st, hid, _, re, S, h, fun vs H1 ds st1 F1 S1 r q => ?_⟩) fun us s1 ⟨vs, H1, I1, r1, a, ex, q1⟩ => ?_) hs rfl))
  · split at q
    · obtain ⟨v, rfl, r1⟩ := DvsD.one r
      obtain ⟨a, vs, rfl, h1, r2⟩ := tup_at r1
      exact ⟨a, rfl, .inr ⟨⟨vs, h1⟩, k _ H1 _ st1 F1 S1 (itok_enT h1 r2 S1.sr) (fun a ds z => nomatch z) q⟩⟩
    · obtain ⟨v, rfl, r1⟩ := DvsD.one r
      cases r1 with
      | d r1 =>
        cases r1 with
        | lst h f r => exact ⟨_, rfl, .inl ⟨⟨_, .inl (.inl h)⟩, k _ H1 _ st1 F1 S1 (itok_enL h f r S1.sr) (fun a ds z => nomatch z) q⟩⟩
    · obtain ⟨v, rfl, r1⟩ := DvsD.one r
      cases r1 with
      | own _ =>
        obtain ⟨xs, e1, q⟩ := q
        obtain ⟨vs, h1, r2⟩ := S1.at_ e1
        exact ⟨_, rfl, .inl ⟨⟨_, .inl (.inl h1)⟩, k _ H1 _ st1 F1 S1 itok_enO (fun b es z => by
          cases z
          exact e1) q⟩⟩
    · exact q.elim
  · subst ex
    cases r1 with
    | cons r rr =>
      cases rr
      cases r
      have kp2 : ∀ {h' : Heap}, (∀ b o, s1.heap.get? b = some o → h'.get? b = some o) → Inv X pins σ H1 { s1 with heap := h' } := fun hk => I1.kept (t' := s1.toks) hk
      have fpo : ∀ b ∈ [s1.heap.objs.size + 1, s1.heap.objs.size], FpOk X pins H1 b := fun b hb => by
        have e' : b = s1.heap.objs.size + 1 ∨ b = s1.heap.objs.size := by simpa using hb
        have hle : s1.heap.objs.size ≤ b := by
          rcases e' with z | z
          · rw [z]; exact Nat.le_add_right _ _
          · rw [z]; exact Nat.le_refl _
        exact I1.fpOk hle (I1.hok.fresh hle)
      rcases q1 with ⟨⟨xs, hq⟩, q⟩ | ⟨⟨xs, hq⟩, q⟩
      · obtain ⟨its, rv, p', hz⟩ := I1.list hq
        refine call_enumerate_list p'.isList fun h' he hit hsz hk => wpAny_pyIter_enum he ?_
        exact ⟨s1.heap.objs.size + 1, [s1.heap.objs.size + 1, s1.heap.objs.size], _, _, H1, rfl, kp2 hk, turn_enum a (s1.heap.objs.size + 1) s1.heap.objs.size, ⟨⟨.none, he⟩, hit, Nat.succ_ne_self _⟩, fpo, q⟩
      · obtain ⟨its, rv, p', hz⟩ := I1.tuple hq
        have p' : s1.heap.IsTuple a its.toArray := p'
        have hal : a < s1.heap.objs.size := by
          obtain ⟨o, ho, _⟩ := p'
          exact Heap.lt_size ho
        refine call_enumerate_1B (begins_tuple a its.toArray) p' fun h' he hit hsz hk => wpAny_pyIter_enum he ?_
        exact ⟨s1.heap.objs.size + 1, [s1.heap.objs.size + 1, s1.heap.objs.size], _, _, H1, rfl, kp2 hk, turn_enumT a (s1.heap.objs.size + 1) s1.heap.objs.size, ⟨⟨.none, he⟩, ⟨_, hit, rfl, rfl⟩, Nat.succ_ne_self _, Nat.ne_of_lt hal, Nat.ne_of_lt (Nat.lt_succ_of_lt hal)⟩, fpo, q⟩
end DL
namespace DL
open PySem PySem.Spec PyProof.Rows L2
variable [Tabs]
/-! ### list comprehensions, targets of any form -/
inductive Pat where
  | nm (i : Nat)
  | tup (ps : List Pat)
mutual
def gP (K : PySem.W.Frag) : Pat → TG
  | .nm i => gName i
  | .tup ps => gTup K ps.length (gPs K ps)
def gPs (K : PySem.W.Frag) : List Pat → TGs
  | [] => gNil
  | p :: ps => gCons (gP K p) (gPs K ps)
end
mutual
def setP : Pat → PyData → Ed → Option Ed
  | .nm i, x, e => some (e.set i (some (.d x)))
  | .tup ps, .tuple xs, e => setPs ps xs e
  | .tup _, _, _ => none
def setPs : List Pat → List PyData → Ed → Option Ed
  | [], [], e => some e
  | p :: ps, x :: xs, e => (setP p x e).bind (setPs ps xs)
  | _, _, _ => none
end
mutual
def slots : Pat → List Nat
  | .nm i => [i]
  | .tup ps => slotsAll ps
def slotsAll : List Pat → List Nat
  | [] => []
  | p :: ps => slots p ++ slotsAll ps
end
structure REo (K : PySem.W.Frag) (st : Sto) (H : Hp) (P : Nat → Prop) (σ : L2.St) (e : Ed) : Prop where
  len : σ.length = e.length
  at_ : ∀ (i : Nat) (d : D), ¬ P i → e[i]? = some (some d) → ∃ v, σ[i]? = some (some v) ∧ DvD K st H v d
theorem wipe_at {σ : L2.St} {j : Nat} : ∀ {vs : List Nat}, j ∉ vs → (wipe σ vs)[j]? = σ[j]?
  | [], _ => rfl
  | v :: vs, h => by
    rw [List.mem_cons, not_or] at h
    unfold wipe
    rw [List.getElem?_set_ne (Ne.symm h.1), wipe_at h.2]
theorem wipe_in {σ : L2.St} {j : Nat} : ∀ {vs : List Nat}, j ∈ vs → j < σ.length → (wipe σ vs)[j]? = some none
  | v :: vs, h, hl => by
    unfold wipe
    by_cases e : v = j
    · subst e
      rw [List.getElem?_set_self (by rw [wipe_length]; exact hl)]
    · rw [List.getElem?_set_ne e]
      rcases List.mem_cons.mp h with h | h
      · exact absurd h.symm e
      · exact wipe_in h hl
theorem wipe_set {σ : L2.St} {i : Nat} {x : Option V} {vs : List Nat} (h : i ∈ vs) : wipe (σ.set i x) vs = wipe σ vs := by
  refine List.ext_getElem? fun j => ?_
  by_cases hj : j ∈ vs
  · by_cases hl : j < σ.length
    · rw [wipe_in hj hl, wipe_in hj (by rw [List.length_set]; exact hl)]
    · rw [List.getElem?_eq_none (by rw [wipe_length, List.length_set]; omega), List.getElem?_eq_none (by rw [wipe_length]; omega)]
  · have ne : i ≠ j := fun z => hj (z ▸ h)
    rw [wipe_at hj, wipe_at hj, List.getElem?_set_ne ne]
theorem RE.off {K : PySem.W.Frag} {st : Sto} {H : Hp} {σ : L2.St} {e : Ed} (r : RE K st H σ e) (vs : List Nat) : REo K st H (· ∈ vs) (wipe σ vs) e :=
  ⟨by rw [wipe_length]; exact r.len, fun i d hi h => by
    rw [wipe_at hi]
    exact r.at_ i d h⟩
theorem REo.on {K : PySem.W.Frag} {st : Sto} {H : Hp} {P : Nat → Prop} {σ : L2.St} {e : Ed} (r : REo K st H P σ e) (h : ∀ i, ¬ P i) : RE K st H σ e := ⟨r.len, fun i d q => r.at_ i d (h i) q⟩
theorem REo.imp {K : PySem.W.Frag} {st : Sto} {H : Hp} {P P' : Nat → Prop} {σ : L2.St} {e : Ed} (r : REo K st H P σ e) (h : ∀ i, P i → P' i) : REo K st H P' σ e := ⟨r.len, fun i d hi q => r.at_ i d (fun z => hi (h i z)) q⟩
theorem REo.set {K : PySem.W.Frag} {st : Sto} {H : Hp} {P : Nat → Prop} {σ : L2.St} {e : Ed} (r : REo K st H P σ e) {i : Nat} {v : V} {d : D} (h : DvD K st H v d) : REo K st H (fun j => P j ∧ j ≠ i) (σ.set i (some v)) (e.set i (some d)) := by
  refine ⟨by rw [List.length_set, List.length_set]; exact r.len, fun j x hp hj => ?_⟩
  by_cases hi : i = j
  · subst hi
    rw [List.getElem?_set] at hj ⊢
    rw [if_pos rfl] at hj ⊢
    rw [r.len]
    split at hj
    · rename_i hl
      rw [if_pos hl]
      cases Option.some.inj (Option.some.inj hj)
      exact ⟨v, rfl, h⟩
    · cases hj
  · rw [List.getElem?_set_ne hi] at hj ⊢
    exact r.at_ j x (fun z => hp ⟨z, fun w => hi w.symm⟩) hj
mutual
theorem gP_go {K : PySem.W.Frag} {st : Sto} {H : Hp} {vs : List Nat} : ∀ (p : Pat) {P : Nat → Prop} {σ : L2.St} {e e' : Ed} {v : V} {x : PyData} {Q : L2.St → Hp → Prop}, REo K st H P σ e → Dv K st H v x → setP p x e = some e' → (∀ i ∈ slots p, i ∈ vs) →
    (∀ σ2, REo K st H (fun j => P j ∧ j ∉ slots p) σ2 e' → wipe σ2 vs = wipe σ vs → Q σ2 H) → gP K p v σ H Q
  | .nm i, P, σ, e, e', v, x, Q, r, h, q, hs, k => by
    unfold setP at q
    cases Option.some.inj q
    unfold gP
    exact k _ ((r.set (.d h)).imp fun j hj => ⟨hj.1, by simpa [slots] using hj.2⟩) (wipe_set (hs i (by simp [slots])))
  | .tup ps, P, σ, e, e', v, x, Q, r, h, q, hs, k => by
    cases h with
    | tup h1 r1 =>
      unfold setP at q
      unfold gP
      refine ⟨_, _, rfl, h1, ?_, gPs_go ps r r1 q (by simpa [slots] using hs) (by simpa [slots] using k)⟩
      rw [r1.length]
      exact setPs_len ps q
    | _ => cases q
theorem setPs_len : ∀ (ps : List Pat) {xs : List PyData} {e e' : Ed}, setPs ps xs e = some e' → xs.length = ps.length
  | [], [], _, _, _ => rfl
  | [], _ :: _, _, _, q => by cases q
  | p :: ps, [], _, _, q => by cases q
  | p :: ps, x :: xs, e, e', q => by
    unfold setPs at q
    obtain ⟨e1, h1, h2⟩ := Option.bind_eq_some_iff.mp q
    rw [List.length_cons, List.length_cons, setPs_len ps h2]
theorem gPs_go {K : PySem.W.Frag} {st : Sto} {H : Hp} {vs : List Nat} : ∀ (ps : List Pat) {P : Nat → Prop} {σ : L2.St} {e e' : Ed} {ws : List V} {xs : List PyData} {Q : L2.St → Hp → Prop}, REo K st H P σ e → Dvs K st H ws xs → setPs ps xs e = some e' → (∀ i ∈ slotsAll ps, i ∈ vs) →
    (∀ σ2, REo K st H (fun j => P j ∧ j ∉ slotsAll ps) σ2 e' → wipe σ2 vs = wipe σ vs → Q σ2 H) → gPs K ps ws σ H Q
  | [], P, σ, e, e', ws, xs, Q, r, h, q, hs, k => by
    cases h with
    | nil =>
      unfold setPs at q
      cases Option.some.inj q
      exact ⟨rfl, k σ (r.imp fun j hj => ⟨hj, by simp [slotsAll]⟩) rfl⟩
    | cons _ _ => cases q
  | p :: ps, P, σ, e, e', ws, xs, Q, r, h, q, hs, k => by
    cases h with
    | nil => cases q
    | cons h t =>
      unfold setPs at q
      obtain ⟨e1, h1, h2⟩ := Option.bind_eq_some_iff.mp q
      unfold gPs
      refine ⟨_, _, rfl, gP_go p r h h1 (fun i hi => hs i (by simp [slotsAll, hi])) fun σ2 r2 w2 => ?_⟩
      exact gPs_go ps r2 t h2 (fun i hi => hs i (by simp [slotsAll, hi])) fun σ3 r3 w3 => k σ3 (r3.imp fun j ⟨⟨h1, h2⟩, h3⟩ => ⟨h1, by simp [slotsAll, h2, h3]⟩) (w3.trans w2)
end
def dLcP (M : List D → Sto → Kd → Prop) (ti : TId) (p : Pat) (tt : TTd) (te : TEd) : TEd := fun e st Q => ti e st fun it st1 => ∃ W : Nat → List D → Sto → Prop, W 0 [] st1 ∧ ∀ j acc st2, W j acc st2 → it.at st2 ∧ (it.xs.length ≤ j → M acc st2 Q) ∧
  ∀ d, it.xs[j]? = some d → ∃ x e', d = .d x ∧ setP p x e = some e' ∧ tt e' st2 fun b st3 => if b = true then te e' st3 fun y st4 => acc.length < sizeLine ∧ W (j + 1) (acc ++ [y]) st4 else W (j + 1) acc st3
theorem pd_lcP {X : Cx} {M : List D → Sto → Kd → Prop} (hM : ∀ ds st Q, M ds st Q → mkL ds st Q) {elt iter tg : Expr} {ifs : List Expr} {scope : Scope} {pos : Pos} {ti : TId} {tt : TTd} {te : TEd} (p : Pat) (own : List (Str × Nat)) (ho : ∀ i, i ∈ own.map (·.2) ↔ i ∈ slots p) (hc : X.calm = true) (hN : X.N.Nodup) (hi : PDI X tg iter ti) (ok : BlkOk X.N X.env.scope scope own)
    (hg : ∀ (s : Shared) (H : Hp) (C : Addr) (cl : List (Str × Addr)) (fp : List Addr), PG (X.blk s H scope (compEnvC scope cl C X.env) fp) tg (gP X.K p))
    (ht : ∀ (s : Shared) (H : Hp) (C : Addr) (cl : List (Str × Addr)) (fp : List Addr), PDTs (X.blk s H scope (compEnvC scope cl C X.env) fp) ifs tt)
    (he : ∀ (s : Shared) (H : Hp) (C : Addr) (cl : List (Str × Addr)) (fp : List Addr), PD (X.blk s H scope (compEnvC scope cl C X.env) fp) elt te) (hs : ∀ x, foldedSetIterable iter X.env x = pure x := by intro _; rfl) :
    PD X (.ListComp elt [⟨tg, iter, ifs, 0⟩] scope pos) (dLcP M ti p tt te) :=
  PE.imp (pe_lc (own := own) (wi := upI X.K ti) (g := gP X.K p) (tt := upT X.K tt) (te := up X.K te) hc hN hi ok hg ht he hs) fun σ H Q ⟨e, st, hid, Qd, re, S, h, k⟩ => by
    refine ⟨e, st, hid, _, re, S, h, fun J H1 it st1 F1 S1 ok1 at1 ⟨W, w0, turn⟩ p' hp => ?_⟩
    have n1 := jn_free (S1.sr.free0 hp)
    refine ⟨fun j m H2 => m = it.xs.length - j ∧ ∃ acc st2, W j acc st2 ∧ Sx X.K (put st2 p' acc) hid H2 ∧ st2 p' = none ∧ Fr (jn (put st1 p' []) hid) (upd H1 p' (.lst [])) (jn (put st2 p' acc) hid) H2, ⟨it.xs.length, by simp, [], st1, w0, S1.own hp .nil, n1.1, Fr.refl _ _⟩, ?_⟩
    rintro j m H2 ⟨rfl, acc, st2, w2, S2, n2, F2⟩
    obtain ⟨at2, done, go⟩ := turn j acc st2 w2
    have Sh := S2.hide n2
    have eqF : jn st2 (put hid p' acc) = jn (put st2 p' acc) hid := jn_swap n2
    have F12 : Fr (jn st1 hid) H1 (jn (put st2 p' acc) hid) H2 := Fr.trans (fx_own hp) F2
    have F02 : Fr (jn st hid) H (jn (put st2 p' acc) hid) H2 := Fr.trans F1 F12
    have atF : it.at (jn (put st2 p' acc) hid) := fun a ds z => by
      have e1 := at2 a ds z
      have ne : a ≠ p' := fun z' => by
        rw [z', n2] at e1
        cases e1
      exact jn_some (by rw [put_ne ne]; exact e1)
    have It := ok1 j _ H2 F12 S2.sr atF
    by_cases hj : it.xs.length ≤ j
    · refine .inl ⟨It.2 hj, ?_⟩
      obtain ⟨vs, hv, rv⟩ := S2.at_ put_same
      rcases hM _ _ _ (done hj) with ⟨xs, ep, q⟩ | q
      · have ea := pures_eq ep
        subst ea
        obtain ⟨Sc, Fc, fc⟩ := S2.frz put_same
        have ec : cut (put st2 p' (xs.map D.d)) p' = st2 := by
          funext b
          by_cases eb : b = p'
          · rw [eb, cut_same, n2]
          · rw [cut_ne eb, put_ne eb]
        rw [ec] at Sc Fc fc
        exact k _ H2 _ st2 (Fr.trans F02 Fc) Sc (.d (.lst hv fc ((Dvs.of rv).mono Fc S2.sr))) q
      · exact k _ H2 _ _ F02 S2 (.own p') (q p' n2)
    · have hlt : j < it.xs.length := Nat.lt_of_not_le hj
      have ed : it.xs[j]? = some it.xs[j] := List.getElem?_eq_getElem hlt
      obtain ⟨g1, g2⟩ := It.1 _ ed
      refine .inr ⟨g1, fun H' => ∃ acc' st', W (j + 1) acc' st' ∧ Sx X.K (put st' p' acc') hid H' ∧ st' p' = none ∧ Fr (jn (put st1 p' []) hid) (upd H1 p' (.lst [])) (jn (put st' p' acc') hid) H', fun H' ⟨acc', st', h1, h2, h3, h4⟩ => ⟨it.xs.length - (j + 1), by omega, rfl, acc', st', h1, h2, h3, h4⟩, fun x H3 hy => ?_⟩
      obtain ⟨F23, S3r, rx⟩ := g2 x H3 hy
      obtain ⟨xd, e', exd, he', go2⟩ := go _ ed
      rw [exd] at rx
      cases rx with
      | d rx =>
      have S3 : Sx X.K (put st2 p' acc) hid H3 := S2.go F23 S3r
      have S3h := S3.hide n2
      have F03 := Fr.trans F02 F23
      have reo : REo X.K (jn (put st2 p' acc) hid) H3 (· ∈ own.map (·.2)) (wipe σ (own.map (·.2))) e := (re.mono F03 S.sr).off _
      refine gP_go p reo rx he' (fun i hi => (ho i).mpr hi) fun σ2 r2 w2 => ?_
      have reX : RE X.K (jn st2 (put hid p' acc)) H3 σ2 e' := by
        rw [eqF]
        exact r2.on fun i hi => hi.2 ((ho i).mp hi.1)
      have ww : wipe (wipe σ (own.map (·.2))) (own.map (·.2)) = wipe σ (own.map (·.2)) := by
        refine List.ext_getElem? fun i => ?_
        by_cases hi : i ∈ own.map (·.2)
        · by_cases hl : i < σ.length
          · rw [wipe_in hi (by rw [wipe_length]; exact hl), wipe_in hi hl]
          · rw [List.getElem?_eq_none (by rw [wipe_length, wipe_length]; omega), List.getElem?_eq_none (by rw [wipe_length]; omega)]
        · rw [wipe_at hi]
      refine ⟨w2.trans ww, ?_⟩
      refine ⟨_, st2, put hid p' acc, _, reX, S3h, go2, fun b H4 st4 F4 S4 q4 => ?_⟩
      have hn : hid p' = none := n1.2
      have F3X : Fr (jn (put st1 p' []) hid) (upd H1 p' (.lst [])) (jn st2 (put hid p' acc)) H3 := by
        rw [eqF]
        exact Fr.trans F2 F23
      cases b with
      | false =>
        rw [if_neg Bool.false_ne_true] at q4
        refine iteF ?_
        obtain ⟨S4', n4⟩ := S4.shown hn
        refine ⟨acc, st4, q4, S4', n4, ?_⟩
        rw [← jn_swap n4]
        exact Fr.trans F3X F4
      | true =>
        rw [if_pos rfl] at q4
        refine iteT ?_
        refine ⟨_, st4, put hid p' acc, _, reX.mono F4 S3h.sr, S4, q4, fun v H5 d st5 F5 S5 r5 ⟨hz, w5⟩ => ?_⟩
        obtain ⟨S5', n5⟩ := S5.shown hn
        obtain ⟨vs, hv, rv⟩ := S5'.at_ put_same
        rw [jn_swap n5] at r5
        refine ⟨vs, hv, by rw [Paired.length rv]; exact hz, acc ++ [d], st5, w5, ?_, n5, ?_⟩
        · have := S5'.store (es := acc ++ [d]) put_same (DvsD.snoc rv r5)
          have ee : put (put st5 p' acc) p' (acc ++ [d]) = put st5 p' (acc ++ [d]) := by
            funext b
            by_cases eb : b = p'
            · rw [eb, put_same, put_same]
            · rw [put_ne eb, put_ne eb, put_ne eb]
          rw [ee] at this
          exact this
        · have Fa : Fr (jn (put st1 p' []) hid) (upd H1 p' (.lst [])) (jn (put st5 p' acc) hid) H5 := by
            rw [← jn_swap n5]
            exact Fr.trans F3X (Fr.trans F4 F5)
          exact Fr.late Fa (by rw [jn_some put_same]; exact fun z => nomatch z)
end DL
namespace DL
open PySem PySem.Spec PyProof.Rows L2
variable [Tabs]
/-! ### sorted(xs) -/
def sortD (xs : List PyData) : List PyData := xs.mergeSort (PySem.W.dataLe false _root_.id)
mutual
theorem alike_noDict : ∀ (x : PyData), PySem.W.alike x x = true → x.hasDict = false
  | .none, _ => rfl
  | .bool _, _ => rfl
  | .int _, _ => rfl
  | .str _, _ => rfl
  | .list xs, h => by
    unfold PyData.hasDict
    exact alikeAll_noDict xs (by simpa [PySem.W.alike] using h)
  | .tuple xs, h => by
    unfold PyData.hasDict
    exact alikeAll_noDict xs (by simpa [PySem.W.alike] using h)
  | .dict _, h => by simp [PySem.W.alike] at h
theorem alikeAll_noDict : ∀ (xs : List PyData), PySem.W.alikeAll xs xs = true → PyData.hasDictAll xs = false
  | [], _ => by simp [PyData.hasDictAll]
  | x :: xs, h => by
    rw [PySem.W.alikeAll, Bool.and_eq_true] at h
    rw [PyData.hasDictAll, alike_noDict x h.1, alikeAll_noDict xs h.2]
    rfl
end
def cSorted : RCd := fun ds st Q => match ds with
  | [x] => ∃ xs : List PyData, lstOf x st = some (xs.map D.d) ∧ PySem.W.AllAlike xs ∧ PySem.W.Sortable xs ∧ (∀ d ∈ xs, d.depth ≤ 64) ∧ mkL ((sortD xs).map D.d) st Q
  | _ => False
section
variable {X : Cx}
theorem each_of {K : PySem.W.Frag} {st : Sto} {H : Hp} : ∀ {vs : List V} {us : List Value} {xs : List PyData}, Vals vs us → Dvs K st H vs xs → PySem.W.EachIs (fun u x => ∃ v, RelV v u ∧ Dv K st H v x) us xs
  | _, _, _, .nil, .nil => .nil
  | _, _, _, .cons r t, .cons h t' => .cons ⟨_, r, h⟩ (each_of t t')
theorem of_each {K : PySem.W.Frag} {st : Sto} {H : Hp} : ∀ {us : List Value} {xs : List PyData}, PySem.W.EachIs (fun u x => ∃ v, RelV v u ∧ Dv K st H v x) us xs → ∃ vs, Vals vs us ∧ Dvs K st H vs xs
  | _, _, .nil => ⟨[], .nil, .nil⟩
  | _, _, .cons ⟨v, r, h⟩ t => by
    obtain ⟨vs, h1, h2⟩ := of_each t
    exact ⟨v :: vs, .cons r h1, .cons h h2⟩
theorem each_reads {pins : List (Addr × Obj)} {σ : L2.St} {st : Sto} {H : Hp} {s : Shared} (I : Inv X pins σ H s) : ∀ {vs : List V} {us : List Value} {xs : List PyData}, Vals vs us → Dvs X.K st H vs xs → (∀ x ∈ xs, x.hasDict = false) → PySem.W.EachIs (fun v b => ∃ as, Reads s.heap v (_root_.id b) as) us xs
  | _, _, _, .nil, .nil, _ => .nil
  | _, _, _, .cons r t, .cons h t', n => .cons (Dp.reads I _ _ _ (h.dp (n _ List.mem_cons_self)) r) (each_reads I t t' fun x hx => n x (List.mem_cons_of_mem _ hx))
theorem c_sorted (hu : X.A.units + 66 < cLine) : CallR X (.builtin "sorted") (upC X.K cSorted) := fun pins s σ H vs us Q I rx ⟨ds, st, hid, Qd, r, S, w, k⟩ => by
  unfold cSorted at w
  split at w
  · obtain ⟨v, rfl, r1⟩ := r.one
    obtain ⟨xs, e, hal, hk, hd, q⟩ := w
    obtain ⟨a, ws, rfl, h1, r2⟩ := lstOf_at r1 S e
    have r2 := Dvs.of r2
    obtain ⟨u, rfl, ru⟩ := vals1 rx
    cases ru
    obtain ⟨its, rv, hl, hz⟩ := I.list h1
    have nd : ∀ x ∈ xs, x.hasDict = false := fun x hx => alike_noDict x (hal x hx x hx)
    have ln : xs.length ≤ sizeLine := by
      rw [← r2.length]
      have := rv.length
      omega
    have hal' : PySem.W.AllAlike (xs.map _root_.id) := by rw [List.map_id]; exact hal
    have hk' : PySem.W.Sortable (xs.map _root_.id) := by rw [List.map_id]; exact hk
    refine PySem.W.sorted_data (R := fun u x => ∃ v, RelV v u ∧ Dv X.K (jn st hid) H v x) (enc := _root_.id) hl.isList (each_of rv r2) (each_reads I rv r2 nd) hal' hk' ln (fun b hb => ?_) fun out hlen ho => ?_
    · have := hd b hb
      show X.A.units + 2 + b.depth < cLine
      omega
    · obtain ⟨vs', h2, h3⟩ := of_each ho
      have hlen2 := h2.length
      have hn := I.hok.fresh (Nat.le_succ s.heap.objs.size)
      obtain ⟨n, hat⟩ := sortedAll_at s.heap its (List.toArray out)
      refine ⟨.ref (s.heap.objs.size + 1), upd H (s.heap.objs.size + 1) (.lst vs'), I.laid (t' := s.toks) (fun b o e => sortedAll_old e) (Nat.le_succ _) ⟨?_, out, n, h2, by simpa using hat⟩, rfl, mkL_go (ds := (sortD xs).map D.d) q S hn (Dvs.to h3) k⟩
      rw [h2.length, hlen]
      exact ln
  · exact w.elim
end
/-! ### // of any divisor but 0 -/
def CDivF (_ j : Int) : Prop := j ≠ 0 ∧ j.natAbs.log2 < 9000
def rDivF : R2d := rI2 CDivF fun i j => .int (Int.fdiv i j)
theorem o_divF {X : Cx} : OpR X (binaryOp .FloorDiv) (upR X.K rDivF) := up_int (opI fun i j _ _ _ _ _ hc q => floordiv_int hc.1 q (.inl (PyProof.noPylong_of_log2 hc.2)))
theorem bt_sorted : bootBuiltins "sorted" = some (.builtin "sorted") := by decide +kernel
theorem bt_sum : bootBuiltins "sum" = some (.builtin "sum") := by decide +kernel
theorem bt_any : bootBuiltins "any" = some (.builtin "any") := by decide +kernel
theorem u66 {k : Nat} {A : Around} (r : Room k A) : A.units + 66 < cLine := by
  have := r.un
  omega
end DL
namespace DL
open PySem PySem.Spec PyProof.Rows L2
variable [Tabs]
section
variable {e : Ed} {st : Sto} {Q : Ed → Sto → Prop} {i j k l m o p : Nat} {a b c d f g h : PyData}
theorem tup2 : hTup 2 (hCons (hName i) (hCons (hName j) hNil)) (.d (.tuple [a, b])) e st Q = Q ((e.set i (some (.d a))).set j (some (.d b))) st := propext ⟨fun h => h.2.2, fun h => ⟨rfl, rfl, h⟩⟩
theorem tup3 : hTup 3 (hCons (hName i) (hCons (hName j) (hCons (hName k) hNil))) (.d (.tuple [a, b, c])) e st Q = Q (((e.set i (some (.d a))).set j (some (.d b))).set k (some (.d c))) st := propext ⟨fun h => h.2.2, fun h => ⟨rfl, rfl, h⟩⟩
theorem tup4 : hTup 4 (hCons (hName i) (hCons (hName j) (hCons (hName k) (hCons (hName l) hNil)))) (.d (.tuple [a, b, c, d])) e st Q = Q ((((e.set i (some (.d a))).set j (some (.d b))).set k (some (.d c))).set l (some (.d d))) st := propext ⟨fun h => h.2.2, fun h => ⟨rfl, rfl, h⟩⟩
theorem tup5 : hTup 5 (hCons (hName i) (hCons (hName j) (hCons (hName k) (hCons (hName l) (hCons (hName m) hNil))))) (.d (.tuple [a, b, c, d, f])) e st Q = Q (((((e.set i (some (.d a))).set j (some (.d b))).set k (some (.d c))).set l (some (.d d))).set m (some (.d f))) st := propext ⟨fun h => h.2.2, fun h => ⟨rfl, rfl, h⟩⟩
theorem tup22 : hTup 2 (hCons (hTup 2 (hCons (hName i) (hCons (hName j) hNil))) (hCons (hTup 2 (hCons (hName k) (hCons (hName l) hNil))) hNil)) (.d (.tuple [.tuple [a, b], .tuple [c, d]])) e st Q = Q ((((e.set i (some (.d a))).set j (some (.d b))).set k (some (.d c))).set l (some (.d d))) st := propext ⟨fun h => h.2.2.2.2.2.2, fun h => ⟨rfl, rfl, rfl, rfl, rfl, rfl, h⟩⟩
theorem tup12 : hTup 2 (hCons (hName i) (hCons (hTup 2 (hCons (hName k) (hCons (hName l) hNil))) hNil)) (.d (.tuple [a, .tuple [c, d]])) e st Q = Q (((e.set i (some (.d a))).set k (some (.d c))).set l (some (.d d))) st := propext ⟨fun h => h.2.2.2.2, fun h => ⟨rfl, rfl, rfl, rfl, h⟩⟩
end
/-! ### lists that are let go -/
def Sub (st' st : Sto) : Prop := ∀ a, st' a = st a ∨ st' a = none
theorem Sub.refl (st : Sto) : Sub st st := fun _ => .inl rfl
theorem Sx.sub {K : PySem.W.Frag} {st st' hid : Sto} {H : Hp} (S : Sx K st hid H) (h : Sub st' st) : Sx K st' hid H ∧ FrX st hid H st' H := by
  have F : FrX st hid H st' H := Fr.of fun b o hb f => ⟨hb, by
    obtain ⟨h1, h2⟩ := jn_free f
    have e : st' b = none := by
      rcases h b with e | e
      · rw [e]
        exact h1
      · exact e
    rw [jn_none e]
    exact h2⟩
  refine ⟨⟨fun a n => ?_, fun a ds e => ?_, S.tb⟩, F⟩
  · rcases h a with e | e
    · rw [e]
      exact S.dj a n
    · exact e
  · have e' : jn st hid a = some ds := by
      cases q : st' a with
      | some es =>
        rw [jn_some q] at e
        cases e
        rcases h a with z | z
        · exact jn_some (by rw [← z, q])
        · rw [z] at q
          cases q
      | none =>
        rw [jn_none q] at e
        have : st a = none := S.dj a (by rw [e]; exact fun z => nomatch z)
        rw [jn_none this]
        exact e
    obtain ⟨xs, h1, h2⟩ := S.sr a ds e'
    exact ⟨xs, h1, h2.mono F S.sr⟩
def RQ (Q : Kd) : Kd := fun d st => ∃ st', Sub st' st ∧ Q d st'
theorem RQ.of {Q : Kd} {d : D} {st : Sto} (h : Q d st) : RQ Q d st := ⟨st, Sub.refl st, h⟩
theorem Go.sub {K : PySem.W.Frag} {st hid : Sto} {H : Hp} {Qd : Kd} {Q : VK} (k : Go K st hid H Qd Q) : Go K st hid H (RQ Qd) Q := fun v H1 d st1 F1 S1 r ⟨st2, hs, q⟩ => by
  obtain ⟨S2, F2⟩ := S1.sub hs
  exact k v H1 d st2 (Fr.trans F1 F2) S2 (r.mono F2 S1.sr) q
theorem can_ofS {P : Program} {w : World} {K : PySem.W.Frag} {mg : Str → Option Value} {base : Heap} {x : Str} {st : Stmt} {N ps : List Str} {k : Nat} {sp : SpD} {t : TSd} (F : Has K mg x st) (S : FnScope N ps (defScope st)) (len : ∀ ds s Q, sp ds s Q → ds.length = ps.length)
    (bind : ∀ (kV doc pm : Value) (an : Option Addr) (cdv ct : Value) (us : List Value), us.length = ps.length → bindArgs (PySem.W.fnOf x x (defArgs st) (defBody st) (defScope st) .none kV doc pm an cdv ct) ⟨us, []⟩ = pure (ps.zip us))
    (hbody : ∀ (f : Addr) (cd : Value) (A : Around) (outer : List Env) (s : Shared) (H : Hp) (E : XK), A.guards = some [] → Room k (A.deeper (envOfC x (defScope st) s.heap.objs.size f cd)) → PDSs (cxD P w K mg base N x (defScope st) f cd A outer s H E) (defBody st) t)
    (hsp : ∀ ds s Q, sp ds s Q → t { nx := fun _ s' => RQ Q (.d .none) s', rt := RQ Q } (startD N ds) s) : Can P w K mg base (k + 1) x st ps sp := by
  have C : Can P w K mg base (k + 1) x st ps (fun ds s Q => ∃ Q0, sp ds s Q0 ∧ Q = RQ Q0) := can_of F S (fun ds s Q ⟨Q0, h, _⟩ => len ds s Q0 h) bind hbody fun ds s Q ⟨Q0, h, e⟩ => by
    subst e
    exact hsp ds s Q0 h
  obtain ⟨f, fd, ⟨l, r⟩, h⟩ := C.ex
  refine ⟨f, fd, ⟨fun vs H Q E ⟨ds, s, hid, Qd, rd, S, hq, g⟩ => l vs H Q E ⟨ds, s, hid, RQ Qd, rd, S, ⟨Qd, hq, rfl⟩, Go.sub g⟩, fun A outer s H args us vs Q E hg hr e0 hb hv ⟨ds, sd, hid, Qd, rd, Sd, hq, g⟩ => r A outer s H args us vs Q E hg hr e0 hb hv ⟨ds, sd, hid, RQ Qd, rd, Sd, ⟨Qd, hq, rfl⟩, Go.sub g⟩⟩, h⟩
end DL
namespace DL
open PySem PySem.Spec PyProof.Rows L2
variable [Tabs]
/-- repr(x), of a list that may still grow too -/
def cReprX : RCd := fun ds st Q => match ds with
  | [.d x] => x.hasDict = false ∧ x.showable = true ∧ x.shown.length ≤ sizeLine ∧ x.depth ≤ 64 ∧ Q (.d (.str x.shown)) st
  | [.own a] => ∃ xs : List PyData, st a = some (xs.map D.d) ∧ (PyData.list xs).hasDict = false ∧ (PyData.list xs).showable = true ∧ (PyData.list xs).shown.length ≤ sizeLine ∧ (PyData.list xs).depth ≤ 64 ∧ Q (.d (.str (PyData.list xs).shown)) st
  | _ => False
section
variable {X : Cx}
theorem c_reprX (hG : X.A.guards = some []) (hu : X.A.units + 65 < cLine) : CallR X (.builtin "repr") (upC X.K cReprX) := fun pins s σ H vs us Q I rx ⟨ds, st, hid, Qd, r, S, w, k⟩ => by
  unfold cReprX at w
  split at w
  · exact c_repr hG hu pins s σ H vs us Q I rx ⟨_, st, hid, Qd, r, S, w, k⟩
  · rename_i a
    obtain ⟨v, rfl, r1⟩ := r.one
    obtain ⟨xs, e, h1, h2, h3, h4, q⟩ := w
    cases r1 with
    | own _ =>
      obtain ⟨ws, hw, r2⟩ := S.at_ e
      have r2 := Dvs.of r2
      obtain ⟨u, rfl, ru⟩ := vals1 rx
      cases ru
      obtain ⟨as, rd⟩ := Dp.reads I _ _ _ (Dp.lst (.inl (.inl hw)) (Dvs.dp r2 (by simpa [PyData.hasDict] using h1))) rfl
      exact repr_of_reads' rd h2 (fun z => by rw [h1] at z; cases z) hG (by omega) (fun _ _ e => e) (fun h' u tk kp => ⟨.str _, H, I.kept kp, ⟨_, rfl⟩, k.now S (.d (.str _)) q⟩) h3
  · exact w.elim
end
end DL
namespace DL
open PySem PySem.Spec PyProof.Rows L2
variable [Tabs]
/-! ### x = [.. for ..]: the name is stored within the comprehension's own swap -/
theorem lcM_imp {X : Cx} {M : List D → Sto → Kd → Prop} (hM : ∀ ds st Q, M ds st Q → mkL ds st Q) {i : Nat} {ti : TId} {tt : TTd} {te : TEd} {σ : L2.St} {H : Hp} {Q : VK} (w : up X.K (dLcM M ti i tt te) σ H Q) : tLc (upI X.K ti) (gName i) (upT X.K tt) (up X.K te) [i] σ H Q := by
  obtain ⟨e, st, hid, Qd, re, S, h, k⟩ := w
  refine ⟨e, st, hid, _, re, S, h, fun J H1 it st1 F1 S1 ok1 at1 ⟨W, w0, turn⟩ p hp => ?_⟩
  have n1 := jn_free (S1.sr.free0 hp)
  refine ⟨fun j m H2 => m = it.xs.length - j ∧ ∃ acc st2, W j acc st2 ∧ Sx X.K (put st2 p acc) hid H2 ∧ st2 p = none ∧ Fr (jn (put st1 p []) hid) (upd H1 p (.lst [])) (jn (put st2 p acc) hid) H2, ⟨it.xs.length, by simp, [], st1, w0, S1.own hp .nil, n1.1, Fr.refl _ _⟩, ?_⟩
  rintro j m H2 ⟨rfl, acc, st2, w2, S2, n2, F2⟩
  obtain ⟨at2, done, go⟩ := turn j acc st2 w2
  have Sh := S2.hide n2
  have eqF : jn st2 (put hid p acc) = jn (put st2 p acc) hid := jn_swap n2
  -- from the state ahead of the new list
  have F12 : Fr (jn st1 hid) H1 (jn (put st2 p acc) hid) H2 := Fr.trans (fx_own hp) F2
  have F02 : Fr (jn st hid) H (jn (put st2 p acc) hid) H2 := Fr.trans F1 F12
  have atF : it.at (jn (put st2 p acc) hid) := fun a ds z => by
    have e1 := at2 a ds z
    have ne : a ≠ p := fun z' => by
      rw [z', n2] at e1
      cases e1
    exact jn_some (by rw [put_ne ne]; exact e1)
  have It := ok1 j _ H2 F12 S2.sr atF
  by_cases hj : it.xs.length ≤ j
  · refine .inl ⟨It.2 hj, ?_⟩
    obtain ⟨vs, hv, rv⟩ := S2.at_ put_same
    rcases hM _ _ _ (done hj) with ⟨xs, ep, q⟩ | q
    · have ea := pures_eq ep
      subst ea
      obtain ⟨Sc, Fc, fc⟩ := S2.frz put_same
      have ec : cut (put st2 p (xs.map D.d)) p = st2 := by
        funext b
        by_cases eb : b = p
        · rw [eb, cut_same, n2]
        · rw [cut_ne eb, put_ne eb]
      rw [ec] at Sc Fc fc
      exact k _ H2 _ st2 (Fr.trans F02 Fc) Sc (.d (.lst hv fc ((Dvs.of rv).mono Fc S2.sr))) q
    · exact k _ H2 _ _ F02 S2 (.own p) (q p n2)
  · have hlt : j < it.xs.length := Nat.lt_of_not_le hj
    have ed : it.xs[j]? = some it.xs[j] := List.getElem?_eq_getElem hlt
    obtain ⟨g1, g2⟩ := It.1 _ ed
    refine .inr ⟨g1, fun H' => ∃ acc' st', W (j + 1) acc' st' ∧ Sx X.K (put st' p acc') hid H' ∧ st' p = none ∧ Fr (jn (put st1 p []) hid) (upd H1 p (.lst [])) (jn (put st' p acc') hid) H', fun H' ⟨acc', st', h1, h2, h3, h4⟩ => ⟨it.xs.length - (j + 1), by omega, rfl, acc', st', h1, h2, h3, h4⟩, fun x H3 hy => ?_⟩
    obtain ⟨F23, S3r, rx⟩ := g2 x H3 hy
    have S3 : Sx X.K (put st2 p acc) hid H3 := S2.go F23 S3r
    have S3h := S3.hide n2
    have F03 := Fr.trans F02 F23
    have reX : RE X.K (jn st2 (put hid p acc)) H3 (((wipe σ [i]).set i (some x))) (e.set i (some it.xs[j])) := by
      rw [eqF]
      show RE X.K _ H3 ((σ.set i none).set i (some x)) _
      rw [set_none_set]
      exact (re.mono F03 S.sr).set rx
    show wipe ((wipe σ [i]).set i (some x)) [i] = wipe σ [i] ∧ upT X.K tt ((wipe σ [i]).set i (some x)) H3 _
    refine ⟨by
      show (((σ.set i none).set i (some x)).set i none) = σ.set i none
      rw [List.set_set, List.set_set], ?_⟩
    refine ⟨_, st2, put hid p acc, _, reX, S3h, go _ ed, fun b H4 st4 F4 S4 q4 => ?_⟩
    have hn : hid p = none := n1.2
    have F3X : Fr (jn (put st1 p []) hid) (upd H1 p (.lst [])) (jn st2 (put hid p acc)) H3 := by
      rw [eqF]
      exact Fr.trans F2 F23
    cases b with
    | false =>
      rw [if_neg Bool.false_ne_true] at q4
      refine iteF ?_
      obtain ⟨S4', n4⟩ := S4.shown hn
      refine ⟨acc, st4, q4, S4', n4, ?_⟩
      rw [← jn_swap n4]
      exact Fr.trans F3X F4
    | true =>
      rw [if_pos rfl] at q4
      refine iteT ?_
      refine ⟨_, st4, put hid p acc, _, reX.mono F4 S3h.sr, S4, q4, fun v H5 d st5 F5 S5 r5 ⟨hz, w5⟩ => ?_⟩
      obtain ⟨S5', n5⟩ := S5.shown hn
      obtain ⟨vs, hv, rv⟩ := S5'.at_ put_same
      rw [jn_swap n5] at r5
      refine ⟨vs, hv, by rw [Paired.length rv]; exact hz, acc ++ [d], st5, w5, ?_, n5, ?_⟩
      · have := S5'.store (es := acc ++ [d]) put_same (DvsD.snoc rv r5)
        have ee : put (put st5 p acc) p (acc ++ [d]) = put st5 p (acc ++ [d]) := by
          funext b
          by_cases eb : b = p
          · rw [eb, put_same, put_same]
          · rw [put_ne eb, put_ne eb, put_ne eb]
        rw [ee] at this
        exact this
      · have Fa : Fr (jn (put st1 p []) hid) (upd H1 p (.lst [])) (jn (put st5 p acc) hid) H5 := by
          rw [← jn_swap n5]
          exact Fr.trans F3X (Fr.trans F4 F5)
        exact Fr.late Fa (by rw [jn_some put_same]; exact fun z => nomatch z)
theorem psd_setLc {X : Cx} {M : List D → Sto → Kd → Prop} (hM : ∀ ds st Q, M ds st Q → mkL ds st Q) {i m : Nat} {x : Str} {pos' spos : Pos} {elt iter : Expr} {ifs : List Expr} {scope : Scope} {y : Str} {py pos : Pos} {ti : TId} {tt : TTd} {te : TEd} (hc : X.calm = true) (hN : X.N.Nodup) (hi : X.N[i]? = some x) (hx : X.env.scope.names.lookup x = some .local)
    (hs : swapsWith (.ListComp elt [⟨.Name y py, iter, ifs, 0⟩] scope pos) (some (.Name x pos')) spos.line X.env = pure true) (hit : PDI X (.Name y py) iter ti) (ok : BlkOk X.N X.env.scope scope [(y, m)])
    (hg : ∀ (s : Shared) (H : Hp) (C : Addr) (cl : List (Str × Addr)) (fp : List Addr), PG (X.blk s H scope (compEnvC scope cl C X.env) fp) (.Name y py) (gName m))
    (ht : ∀ (s : Shared) (H : Hp) (C : Addr) (cl : List (Str × Addr)) (fp : List Addr), PDTs (X.blk s H scope (compEnvC scope cl C X.env) fp) ifs tt)
    (he : ∀ (s : Shared) (H : Hp) (C : Addr) (cl : List (Str × Addr)) (fp : List Addr), PD (X.blk s H scope (compEnvC scope cl C X.env) fp) elt te) (hf : ∀ x, foldedSetIterable iter X.env x = pure x := by intro _; rfl) :
    PDS X (.Assign [.Name x pos'] (.ListComp elt [⟨.Name y py, iter, ifs, 0⟩] scope pos) spos) (dAsg (dLcM M ti m tt te) (hName i)) :=
  PS.imp (ps_setLc (own := [(y, m)]) (wi := upI X.K ti) (g := gName m) (tt := upT X.K tt) (te := up X.K te) hc hN hi hx hs hit ok hg ht he hf) fun D σ H ⟨e, st, hid, E, re, S, h, k1, k2, k3, k4⟩ =>
    lcM_imp hM ⟨e, st, hid, _, re, S, h, frz_go fun v H1 d st1 F1 S1 r q => k1 _ H1 _ st1 F1 S1 ((re.mono F1 S.sr).set r) q⟩
end DL
namespace DL
open PySem PySem.Spec PyProof.Rows L2
variable [Tabs]
/-! ### xs.insert(at, x) -/
theorem ins_tree {a : Addr} {i : Int} {t : Tok} {y : Value} (h : Builtin.List.listFitsIndex i = true) : Builtin.«list.insert» { pos := [.ref a, .int i t, y] } = (do
    Builtin.List.listUpdate (.ref a) fun xs => (xs.extract 0 (if i < 0 then (i + ↑xs.size).toNat else min i.toNat xs.size)).push y ++ xs.extract (if i < 0 then (i + ↑xs.size).toNat else min i.toNat xs.size)
    ret Value.none) := by
  unfold Builtin.«list.insert»
  have e1 : selfAndSome "list.insert" "insert" 2 2 { pos := [.ref a, .int i t, y] } = pure (.ref a, [.int i t, y]) := rfl
  have e2 : asIndex (.int i t) = pure i := rfl
  rw [e1]
  simp only [pure_bind, e2, h]
  rfl
def insA (i : Int) (y : Value) (xs : Array Value) : Array Value := (xs.extract 0 (if i < 0 then (i + ↑xs.size).toNat else min i.toNat xs.size)).push y ++ xs.extract (if i < 0 then (i + ↑xs.size).toNat else min i.toNat xs.size)
theorem insA_eq {i : Nat} {y : Value} {its : List Value} (h : i ≤ its.length) : insA i y its.toArray = (its.take i ++ y :: its.drop i).toArray := by
  unfold insA
  have e : (if (i : Int) < 0 then ((i : Int) + ↑its.toArray.size).toNat else min (i : Int).toNat its.toArray.size) = i := by
    rw [if_neg (by omega)]
    simp
    omega
  rw [e]
  simp
  exact List.take_of_length_le (by rw [List.length_drop]; exact Nat.le_refl _)
def rIns : V → List V → Hp → VK → Prop := fun x vs H Q => ∃ l xs, ∃ i : Nat, ∃ y, x = .ref l ∧ vs = [.int i, y] ∧ H l = some (.lst xs) ∧ i ≤ xs.length ∧ xs.length < sizeLine ∧ Q .non (upd H l (.lst (xs.take i ++ y :: xs.drop i)))
theorem vals_take : ∀ {vs : List V} {us : List Value} (i : Nat), Vals vs us → Vals (vs.take i) (us.take i) ∧ Vals (vs.drop i) (us.drop i)
  | _, _, 0, h => ⟨.nil, h⟩
  | _, _, _ + 1, .nil => ⟨.nil, .nil⟩
  | _, _, i + 1, .cons r t => ⟨.cons r (vals_take i t).1, (vals_take i t).2⟩
theorem vals_app : ∀ {vs ws : List V} {us ts : List Value}, Vals vs us → Vals ws ts → Vals (vs ++ ws) (us ++ ts)
  | _, _, _, _, .nil, h => h
  | _, _, _, _, .cons r t, h => .cons r (vals_app t h)
theorem vals_ins {vs : List V} {us : List Value} {y : V} {u : Value} (h : Vals vs us) (r : RelV y u) (i : Nat) : Vals (vs.take i ++ y :: vs.drop i) (us.take i ++ u :: us.drop i) := vals_app (vals_take i h).1 (.cons r (vals_take i h).2)
theorem mt_insert {X : Cx} : MtM X "list.insert" rIns := by
  rintro pins s σ H x vs v us Q I rx rvs ⟨l, xs, i, y, rfl, rfl, hl, hi, hz, q⟩
  cases rx
  cases rvs with
  | cons r1 t =>
  rename_i u1 us1
  cases t with
  | cons r2 t =>
  rename_i u2 us2
  cases t
  obtain ⟨t1, rfl⟩ := r1
  obtain ⟨h1, its, n, rv, hat⟩ := I.hok l _ hl
  have el := rv.length
  have fits : Builtin.List.listFitsIndex (i : Int) = true := by
    unfold Builtin.List.listFitsIndex
    have : i ≤ 2 ^ 24 := Nat.le_trans hi (Nat.le_trans (Nat.le_of_lt hz) (by decide))
    simp only [Bool.and_eq_true, decide_eq_true_eq]
    omega
  have upd' : Vals (xs.take i ++ y :: xs.drop i) (its.take i ++ u2 :: its.drop i) := vals_ins rv r2 i
  refine call_meets (S := fun A R s => ∃ o its n, s.heap.get? l = some o ∧ o.data = .seq (List.toArray its) n ∧ i ≤ its.length ∧ its.length < sizeLine ∧ R (.ok (.ret .none)) { s with heap := s.heap.update l (Obj.mapSeq (insA i u2)) }) PySem.F.slot_list_insert ?_ PySem.F.entry_list_insert (PySem.F.args_list_insert_3 _ _ _) ?_ ?_
  · exact ⟨_, hat, rfl⟩
  · intro prog w A R s ⟨o, its, n, h1, h2, h3, h4, q⟩
    rw [ins_tree fits]
    refine wpAny_bind (listUpdate_at h1 h2 ?_ ?_ ?_)
    · exact wpAny_pure q
    · show its.toArray.size ≤ sizeLine
      rw [List.size_toArray]
      omega
    · show (insA i u2 its.toArray).size ≤ sizeLine + 1
      rw [insA_eq h3, List.size_toArray, List.length_append, List.length_cons, List.length_take, List.length_drop]
      omega
  · refine ⟨_, its, n, hat, rfl, by omega, by omega, ?_⟩
    exact ⟨.non, _, I.lset hl hat (insA_eq (by omega)) upd' (by rw [List.length_append, List.length_cons, List.length_take, List.length_drop]; omega), rfl, q⟩
section
variable {X : Cx} {e e1 : Expr} {te te1 : TEd}
/-- xs.insert(i, e) -/
def dIns (to ti te : TEd) : TEd := fun e st Q => to e st fun o st1 => match o with
  | .own a => (st1 a).isSome = true ∧ ti e st1 fun x st2 => match x with
    | .d (.int i) => te e st2 fun d st3 => ∃ ds, ∃ j : Nat, i = j ∧ st3 a = some ds ∧ j ≤ ds.length ∧ ds.length < sizeLine ∧ Q (.d .none) (put st3 a (ds.take j ++ d :: ds.drop j))
    | _ => False
  | _ => False
theorem paired_ins {α β : Type} {R : α → β → Prop} : ∀ {xs : List α} {ys : List β} {x : α} {y : β} (i : Nat), Paired R xs ys → R x y → Paired R (xs.take i ++ x :: xs.drop i) (ys.take i ++ y :: ys.drop i)
  | _, _, _, _, 0, h, r => .cons r h
  | _, _, _, _, _ + 1, .nil, r => .cons r .nil
  | _, _, _, _, i + 1, .cons h t, r => .cons h (paired_ins i t r)
theorem pd_insert {o : Expr} {to ti : TEd} {apos cpos : Pos} (ho : PD X o to) (hi : PD X e1 ti) (ha : PD X e te)
    (hbase : attributeBase o "insert" X.env (eval o X.env) = eval o X.env := by rfl) (hline : (apos.endLine == cpos.line) = true := by rfl)
    (hs0 : starEach [e1, e] X.env = (false, eval e1 X.env) :: starEach [e] X.env := by rfl) (hs1 : starEach [e] X.env = (false, eval e X.env) :: starEach [] X.env := by rfl)
    (hfew : ((backTo cpos (starEach [e1, e] X.env)).all (fun x => !x.1) && (backToKw cpos (keywordEach [] X.env)).all (fun x => x.1.isSome) && decide ([e1, e].length + ([] : List Keyword).length + (if ([] : List Keyword).isEmpty then 0 else 1) < 30)) = true := by rfl)
    (hplain : (backTo cpos (starEach [e] X.env)).any (·.1) = false := by rfl) : PD X (.Call (.Attribute o "insert" apos) [e1, e] [] cpos) (dIns to ti te) := by
  refine PE.imp (pe_bm PySem.F.plainAttrs_list PySem.F.slot_list_insert PySem.F.type_list_insert mt_insert ho (pa_cons hi (pa_cons ha pa_nil hs1) hs0) hbase hfew hline hs0 hplain) fun σ H Q ⟨e, st, hid, Qd, re, S, h, k⟩ => ⟨e, st, hid, _, re, S, h, fun v H1 d st1 F1 S1 r q => ?_⟩
  cases r with
  | d h => exact q.elim
  | scr h f => exact q.elim
  | own a =>
    obtain ⟨h0, q⟩ := q
    obtain ⟨ds, e1⟩ := Option.isSome_iff_exists.mp h0
    obtain ⟨vs, hv, rv⟩ := S1.at_ e1
    refine ⟨.inl ⟨rfl, vs, .inl (.inl hv)⟩, e, st1, hid, _, re.mono F1 S.sr, S1, q, fun y H2 dy st2 F2 S2 ry q2 => ?_⟩
    cases ry with
    | own _ => exact q2.elim
    | scr _ _ => exact q2.elim
    | d ry =>
      cases ry with
      | int i =>
        refine ⟨e, st2, hid, _, (re.mono F1 S.sr).mono F2 S1.sr, S2, q2, fun z H3 dz st3 F3 S3 rz ⟨es, j, ej, e2, hj, hz, q3⟩ => ?_⟩
        subst ej
        obtain ⟨ws, hw, rw'⟩ := S3.at_ e2
        have F4 : FrX st3 hid H3 (put st3 a (es.take j ++ dz :: es.drop j)) (upd H3 a (.lst (ws.take j ++ z :: ws.drop j))) := fx_put e2
        have ln := Paired.length rw'
        exact ⟨a, ws, j, z, rfl, rfl, hw, by omega, by omega, k _ _ _ _ (Fr.trans F1 (Fr.trans F2 (Fr.trans F3 F4))) (S3.store e2 (paired_ins j rw' rz)) (.d .non) q3⟩
      | _ => exact q2.elim
end
end DL
namespace DL
open PySem PySem.Spec PyProof.Rows L2
variable [Tabs]
section
variable {X : Cx} {e : Expr} {te : TEd}
/-- x += e, of whole numbers -/
def dAug (i : Nat) (te : TEd) : TSd := fun E e st => ∃ x : Int, e[i]? = some (some (.d (.int x))) ∧ te e st fun y st1 => match y with
  | .d (.int j) => E.nx (e.set i (some (.d (.int (x + j))))) st1
  | _ => False
theorem psd_aug {i : Nat} {x : Str} {pos pos' : Pos} (hN : X.N.Nodup) (hi : X.N[i]? = some x) (hx : Loc X.env.scope x) (he : PD X e te) (hf : X.fn x = true ∨ X.env.scope.names.lookup x = some .local := by first | exact .inl rfl | exact .inr rfl | assumption) :
    PDS X (.AugAssign (.Name x pos') .Add e pos) (dAug i te) := PS.imp (ps_aug hN hi hx he ip_add hf) fun D σ H ⟨e, st, hid, E, re, S, ⟨x, hx, h⟩, k1, k2, k3, k4⟩ => by
  obtain ⟨v, hv, rv⟩ := re.at_ i _ hx
  cases rv with
  | d rv =>
  cases rv
  refine ⟨_, hv, e, st, hid, _, re, S, h, fun y H1 d st1 F1 S1 r q => ?_⟩
  cases r with
  | own _ => exact q.elim
  | scr _ _ => exact q.elim
  | d r =>
    cases r with
    | int j => exact ⟨x, j, rfl, rfl, k1 _ H1 _ st1 F1 S1 ((re.mono F1 S.sr).set (.d (.int _))) q⟩
    | _ => exact q.elim
/-- x = y = e -/
def dTwo (i j : Nat) (te : TEd) : TSd := fun E e st => te e st (frz fun d st1 => E.nx ((e.set i (some d)).set j (some d)) st1)
theorem psd_two {i j : Nat} {x y : Str} {px py pos : Pos} (hN : X.N.Nodup) (hi : X.N[i]? = some x) (hj : X.N[j]? = some y) (hx : Loc X.env.scope x) (hy : Loc X.env.scope y) (he : PD X e te)
    (hf : X.fn x = true ∨ X.env.scope.names.lookup x = some .local := by first | exact .inl rfl | exact .inr rfl | assumption) (hg : X.fn y = true ∨ X.env.scope.names.lookup y = some .local := by first | exact .inl rfl | exact .inr rfl | assumption)
    (h1 : (assignEach [.Name x px, .Name y py] X.env).map (·.2) = [assign (.Name x px) X.env, assign (.Name y py) X.env] := by rfl) (h2 : swappedStores [.Name x px, .Name y py] e X.env = pure none := by rfl) :
    PDS X (.Assign [.Name x px, .Name y py] e pos) (dTwo i j te) := ⟨fun pins s σ H D I ⟨e, st, hid, E, re, S, h, k1, k2, k3, k4⟩ =>
  wpAny_Assign_two (thn (he.run pins s σ H (fun v H1 => D.nx ((σ.set i (some v)).set j (some v)) H1) I ⟨e, st, hid, _, re, S, h, frz_go fun v H1 d st1 F1 S1 r q => k1 _ H1 _ st1 F1 S1 (((re.mono F1 S.sr).set r).set r) q⟩) fun u s1 ⟨v, H1, I1, r, q⟩ =>
    thn ((pg_name hN hi hx hf).run pins s1 σ H1 v u (fun σ' H' => σ' = σ.set i (some v) ∧ H' = H1) I1 r ⟨rfl, rfl⟩) fun _ s2 ⟨σ', H', I2, e1, e2⟩ => by
      subst e1
      subst e2
      exact thn ((pg_name hN hj hy hg).run pins s2 _ _ v u (fun σ' H' => D.nx σ' H') I2 r q) fun _ s3 w => w) h1 h2⟩
/-- a def, as a value -/
def dOwnG (f : Addr) : TEd := fun e st Q => Q (.own f) st
theorem pd_gfn {x : Str} {pos : Pos} {f : Addr} (hg : Gl X x) (hm : X.mg x = some (.ref f)) (hdb : (x == ("__debug__" : Str)) = false := by decide) : PD X (.Name x pos) (dOwnG f) :=
  PE.imp (pe_glob (v := .ref f) hg hm rfl hdb) fun σ H Q ⟨e, st, hid, Qd, re, S, h, k⟩ => k.now S (.own f) h
theorem pd_gint {x : Str} {pos : Pos} {n : Int} (hg : Gl X x) (hm : ∃ t, X.mg x = some (.int n t)) (hdb : (x == ("__debug__" : Str)) = false := by decide) : PD X (.Name x pos) (dC (.int n)) := by
  obtain ⟨t, hm⟩ := hm
  exact PE.imp (pe_glob (v := .int n) hg hm ⟨t, rfl⟩ hdb) fun σ H Q ⟨e, st, hid, Qd, re, S, h, k⟩ => k.now S (.d (.int n)) h
/-- g(..), g being a local name that holds a def -/
def dFnL (sp : SpD) (i : Nat) (f : Addr) (t : TAd) : TEd := fun e st Q => e[i]? = some (some (.own f)) ∧ t e st fun xs st1 => sp xs st1 Q
theorem pd_fnL {k : Nat} {f : Addr} {fd : FuncData} {ps : List Str} {sp : SpD} {i : Nat} {x : Str} {p pos : Pos} {es : List Expr} {t : TAd} (F : FnD X.prog X.w X.K X.mg X.base k f fd ps sp) (hG : X.A.guards = some []) (hr : Room k X.A) (hi : X.N[i]? = some x) (hv : Vis X.env.scope x) (hk : PySem.W.keepIn X.K (.ref f) = true) (hb : Binds X.K fd ps [])
    (ha : PDA X (e :: es) t) (hd : (x == ("__debug__" : Str)) = false := by decide) (hcd : (x == ("__classdict__" : Str)) = false := by decide) (he : starEach (e :: es) X.env = (false, eval e X.env) :: starEach es X.env := by rfl)
    (hpl : (backTo pos (starEach es X.env)).any (·.1) = false := by rfl) : PD X (.Call (.Name x p) (e :: es) [] pos) (dFnL sp i f t) := by
  refine ⟨fun pins s σ H Q I ⟨en, st, hid, Qd, re, S, ⟨hf, h⟩, g⟩ => ?_⟩
  obtain ⟨v, hv1, rv⟩ := re.at_ i _ hf
  cases rv
  refine wpAny_Call_Name_kw (thn ((pe_var (pos := p) hi hv hd hcd).run pins s σ H (fun v' H' => v' = .ref f ∧ H' = H) I ⟨_, hv1, rfl, rfl⟩) fun u s1 ⟨v', H', I1, r1, e1, e2⟩ => ?_)
  subst e1
  subst e2
  cases r1
  refine PySem.W.callWith_K (h₀ := X.base) I1.ok.mod.kin hk (thn (ha.run pos pins s1 σ H' (fun vs H1 => upSp X.K sp vs H1 Q E0) I1 ⟨en, st, hid, _, re, S, h, fun vs H1 ds1 st1 F1 S1 r1 h1 => ?_⟩) fun us s2 ⟨vs, H1, I2, r, q⟩ => ⟨I2.kIn, ?_⟩) he hpl
  · show upSp X.K sp vs H1 Q E0
    exact ⟨_, st1, hid, Qd, r1, S1, h1, Go.mono g F1⟩
  · exact run_fg F hG hr I2 (fun hl => by have := hb s2 us I2.kIn (by simpa using hl); simpa using this) r q
end
end DL
namespace DL
open PySem PySem.Spec PyProof.Rows L2
variable [Tabs]
theorem lcP_imp {X : Cx} {M : List D → Sto → Kd → Prop} (hM : ∀ ds st Q, M ds st Q → mkL ds st Q) {ti : TId} {tt : TTd} {te : TEd} (p : Pat) (own : List (Str × Nat)) (ho : ∀ i, i ∈ own.map (·.2) ↔ i ∈ slots p) {σ : L2.St} {H : Hp} {Q : VK} (w : up X.K (dLcP M ti p tt te) σ H Q) : tLc (upI X.K ti) (gP X.K p) (upT X.K tt) (up X.K te) (own.map (·.2)) σ H Q := by
  obtain ⟨e, st, hid, Qd, re, S, h, k⟩ := w
  refine ⟨e, st, hid, _, re, S, h, fun J H1 it st1 F1 S1 ok1 at1 ⟨W, w0, turn⟩ p' hp => ?_⟩
  have n1 := jn_free (S1.sr.free0 hp)
  refine ⟨fun j m H2 => m = it.xs.length - j ∧ ∃ acc st2, W j acc st2 ∧ Sx X.K (put st2 p' acc) hid H2 ∧ st2 p' = none ∧ Fr (jn (put st1 p' []) hid) (upd H1 p' (.lst [])) (jn (put st2 p' acc) hid) H2, ⟨it.xs.length, by simp, [], st1, w0, S1.own hp .nil, n1.1, Fr.refl _ _⟩, ?_⟩
  rintro j m H2 ⟨rfl, acc, st2, w2, S2, n2, F2⟩
  obtain ⟨at2, done, go⟩ := turn j acc st2 w2
  have Sh := S2.hide n2
  have eqF : jn st2 (put hid p' acc) = jn (put st2 p' acc) hid := jn_swap n2
  have F12 : Fr (jn st1 hid) H1 (jn (put st2 p' acc) hid) H2 := Fr.trans (fx_own hp) F2
  have F02 : Fr (jn st hid) H (jn (put st2 p' acc) hid) H2 := Fr.trans F1 F12
  have atF : it.at (jn (put st2 p' acc) hid) := fun a ds z => by
    have e1 := at2 a ds z
    have ne : a ≠ p' := fun z' => by
      rw [z', n2] at e1
      cases e1
    exact jn_some (by rw [put_ne ne]; exact e1)
  have It := ok1 j _ H2 F12 S2.sr atF
  by_cases hj : it.xs.length ≤ j
  · refine .inl ⟨It.2 hj, ?_⟩
    obtain ⟨vs, hv, rv⟩ := S2.at_ put_same
    rcases hM _ _ _ (done hj) with ⟨xs, ep, q⟩ | q
    · have ea := pures_eq ep
      subst ea
      obtain ⟨Sc, Fc, fc⟩ := S2.frz put_same
      have ec : cut (put st2 p' (xs.map D.d)) p' = st2 := by
        funext b
        by_cases eb : b = p'
        · rw [eb, cut_same, n2]
        · rw [cut_ne eb, put_ne eb]
      rw [ec] at Sc Fc fc
      exact k _ H2 _ st2 (Fr.trans F02 Fc) Sc (.d (.lst hv fc ((Dvs.of rv).mono Fc S2.sr))) q
    · exact k _ H2 _ _ F02 S2 (.own p') (q p' n2)
  · have hlt : j < it.xs.length := Nat.lt_of_not_le hj
    have ed : it.xs[j]? = some it.xs[j] := List.getElem?_eq_getElem hlt
    obtain ⟨g1, g2⟩ := It.1 _ ed
    refine .inr ⟨g1, fun H' => ∃ acc' st', W (j + 1) acc' st' ∧ Sx X.K (put st' p' acc') hid H' ∧ st' p' = none ∧ Fr (jn (put st1 p' []) hid) (upd H1 p' (.lst [])) (jn (put st' p' acc') hid) H', fun H' ⟨acc', st', h1, h2, h3, h4⟩ => ⟨it.xs.length - (j + 1), by omega, rfl, acc', st', h1, h2, h3, h4⟩, fun x H3 hy => ?_⟩
    obtain ⟨F23, S3r, rx⟩ := g2 x H3 hy
    obtain ⟨xd, e', exd, he', go2⟩ := go _ ed
    rw [exd] at rx
    cases rx with
    | d rx =>
    have S3 : Sx X.K (put st2 p' acc) hid H3 := S2.go F23 S3r
    have S3h := S3.hide n2
    have F03 := Fr.trans F02 F23
    have reo : REo X.K (jn (put st2 p' acc) hid) H3 (· ∈ own.map (·.2)) (wipe σ (own.map (·.2))) e := (re.mono F03 S.sr).off _
    refine gP_go p reo rx he' (fun i hi => (ho i).mpr hi) fun σ2 r2 w2 => ?_
    have reX : RE X.K (jn st2 (put hid p' acc)) H3 σ2 e' := by
      rw [eqF]
      exact r2.on fun i hi => hi.2 ((ho i).mp hi.1)
    have ww : wipe (wipe σ (own.map (·.2))) (own.map (·.2)) = wipe σ (own.map (·.2)) := by
      refine List.ext_getElem? fun i => ?_
      by_cases hi : i ∈ own.map (·.2)
      · by_cases hl : i < σ.length
        · rw [wipe_in hi (by rw [wipe_length]; exact hl), wipe_in hi hl]
        · rw [List.getElem?_eq_none (by rw [wipe_length, wipe_length]; omega), List.getElem?_eq_none (by rw [wipe_length]; omega)]
      · rw [wipe_at hi]
    refine ⟨w2.trans ww, ?_⟩
    refine ⟨_, st2, put hid p' acc, _, reX, S3h, go2, fun b H4 st4 F4 S4 q4 => ?_⟩
    have hn : hid p' = none := n1.2
    have F3X : Fr (jn (put st1 p' []) hid) (upd H1 p' (.lst [])) (jn st2 (put hid p' acc)) H3 := by
      rw [eqF]
      exact Fr.trans F2 F23
    cases b with
    | false =>
      rw [if_neg Bool.false_ne_true] at q4
      refine iteF ?_
      obtain ⟨S4', n4⟩ := S4.shown hn
      refine ⟨acc, st4, q4, S4', n4, ?_⟩
      rw [← jn_swap n4]
      exact Fr.trans F3X F4
    | true =>
      rw [if_pos rfl] at q4
      refine iteT ?_
      refine ⟨_, st4, put hid p' acc, _, reX.mono F4 S3h.sr, S4, q4, fun v H5 d st5 F5 S5 r5 ⟨hz, w5⟩ => ?_⟩
      obtain ⟨S5', n5⟩ := S5.shown hn
      obtain ⟨vs, hv, rv⟩ := S5'.at_ put_same
      rw [jn_swap n5] at r5
      refine ⟨vs, hv, by rw [Paired.length rv]; exact hz, acc ++ [d], st5, w5, ?_, n5, ?_⟩
      · have := S5'.store (es := acc ++ [d]) put_same (DvsD.snoc rv r5)
        have ee : put (put st5 p' acc) p' (acc ++ [d]) = put st5 p' (acc ++ [d]) := by
          funext b
          by_cases eb : b = p'
          · rw [eb, put_same, put_same]
          · rw [put_ne eb, put_ne eb, put_ne eb]
        rw [ee] at this
        exact this
      · have Fa : Fr (jn (put st1 p' []) hid) (upd H1 p' (.lst [])) (jn (put st5 p' acc) hid) H5 := by
          rw [← jn_swap n5]
          exact Fr.trans F3X (Fr.trans F4 F5)
        exact Fr.late Fa (by rw [jn_some put_same]; exact fun z => nomatch z)
theorem psd_setLcP {X : Cx} {M : List D → Sto → Kd → Prop} (hM : ∀ ds st Q, M ds st Q → mkL ds st Q) {i : Nat} {x : Str} {pos' spos : Pos} {elt iter tg : Expr} {ifs : List Expr} {scope : Scope} {pos : Pos} {ti : TId} {tt : TTd} {te : TEd} (p : Pat) (own : List (Str × Nat)) (ho : ∀ i, i ∈ own.map (·.2) ↔ i ∈ slots p) (hc : X.calm = true) (hN : X.N.Nodup) (hi : X.N[i]? = some x) (hx : X.env.scope.names.lookup x = some .local)
    (hs : swapsWith (.ListComp elt [⟨tg, iter, ifs, 0⟩] scope pos) (some (.Name x pos')) spos.line X.env = pure true) (hit : PDI X tg iter ti) (ok : BlkOk X.N X.env.scope scope own)
    (hg : ∀ (s : Shared) (H : Hp) (C : Addr) (cl : List (Str × Addr)) (fp : List Addr), PG (X.blk s H scope (compEnvC scope cl C X.env) fp) tg (gP X.K p))
    (ht : ∀ (s : Shared) (H : Hp) (C : Addr) (cl : List (Str × Addr)) (fp : List Addr), PDTs (X.blk s H scope (compEnvC scope cl C X.env) fp) ifs tt)
    (he : ∀ (s : Shared) (H : Hp) (C : Addr) (cl : List (Str × Addr)) (fp : List Addr), PD (X.blk s H scope (compEnvC scope cl C X.env) fp) elt te) (hf : ∀ x, foldedSetIterable iter X.env x = pure x := by intro _; rfl) :
    PDS X (.Assign [.Name x pos'] (.ListComp elt [⟨tg, iter, ifs, 0⟩] scope pos) spos) (dAsg (dLcP M ti p tt te) (hName i)) :=
  PS.imp (ps_setLc (own := own) (wi := upI X.K ti) (g := gP X.K p) (tt := upT X.K tt) (te := up X.K te) hc hN hi hx hs hit ok hg ht he hf) fun D σ H ⟨e, st, hid, E, re, S, h, k1, k2, k3, k4⟩ =>
    lcP_imp hM p own ho ⟨e, st, hid, _, re, S, h, frz_go fun v H1 d st1 F1 S1 r q => k1 _ H1 _ st1 F1 S1 ((re.mono F1 S.sr).set r) q⟩
end DL
namespace DL
open PySem PySem.Spec PyProof.Rows L2
variable [Tabs]
/-- a, b, .. = x, y, .. by way of a tuple -/
def dUnp (n : Nat) (t : TAd) (u : TGsd) : TSd := fun E e st => t e st fun ds st1 => ds.length = n ∧ u ds e st1 E.nx
theorem psd_unp {X : Cx} {es gs : List Expr} {k k2 n : Nat} {pos pos1 pos2 : Pos} {t : TAd} {u : TGsd} (hc : X.calm = true) (ha : PDA X es t) (hgs : PDGs X gs u)
    (hn : (assignEach gs X.env).length = n := by rfl) (hst : (assignEach gs X.env).findIdx? (·.1) = none := by rfl)
    (hs : swapsWithSole [.Tuple gs k pos1] (.Tuple es k2 pos2) pos.line X.env = pure false := by rfl) (hw : swappedStores [.Tuple gs k pos1] (.Tuple es k2 pos2) X.env = pure none := by rfl)
    (h1 : (assignEach [.Tuple gs k pos1] X.env).map (·.2) = [assign (.Tuple gs k pos1) X.env] := by rfl) (hz : n ≤ sizeLine := by decide) : PDS X (.Assign [.Tuple gs k pos1] (.Tuple es k2 pos2) pos) (dUnp n t u) :=
  PS.imp (ps_asg (pe_tup ha) (pg_tup hc hgs hn hst) hs hw h1) fun D σ H ⟨e, st, hid, E, re, S, h, k1, k2, k3, k4⟩ => by
    refine ⟨e, st, hid, _, re, S, h, fun vs H1 ds st1 F1 S1 r1 ⟨hl, q⟩ => ?_⟩
    have ln := Paired.length r1
    refine ⟨by omega, fun p hp => ?_⟩
    have F2 : Fr (jn st1 hid) H1 (jn st1 hid) (upd H1 p (.tup vs)) := fr_new hp
    exact ⟨p, vs, rfl, .inl (.inl upd_same), by omega, ds, e, st1, hid, E.nx, DvsD.mono F2 S1.sr r1, (re.mono F1 S.sr).mono F2 S1.sr, S1.new hp, q, GoS.mono k1 (Fr.trans F1 F2)⟩
end DL
namespace DL
open PySem PySem.Spec PyProof.Rows L2
variable [Tabs]
/-! ### a module's own tuple of texts -/
structure GTup (K : PySem.W.Frag) (mg : Str → Option Value) (x : Str) (ts : List Str) : Prop where
  ex : ∃ a o its n, mg x = some (.ref a) ∧ List.lookup a K = some o ∧ o.cls = Value.type "tuple" ∧ o.data = Data.seq its n ∧ its.size ≤ sizeLine ∧ Vals (ts.map V.str) its.toList
theorem strs_to {K : PySem.W.Frag} {st : Sto} {H : Hp} : ∀ ts : List Str, Dvs K st H (ts.map V.str) (ts.map PyData.str)
  | [] => .nil
  | t :: r => .cons (.str t) (strs_to r)
theorem pd_gtup {X : Cx} {x : Str} {pos : Pos} {ts : List Str} (hg : Gl X x) (h : GTup X.K X.mg x ts) (hdb : (x == ("__debug__" : Str)) = false := by decide) : PD X (.Name x pos) (dC (.tuple (ts.map PyData.str))) := by
  obtain ⟨a, o, its, n, hm, h1, h2, h3, h4, h5⟩ := h.ex
  exact PE.imp (pe_glob (v := .ref a) hg hm rfl hdb) fun σ H Q ⟨e, st, hid, Qd, re, S, h, k⟩ => k.now S (.d (.tup (.inr ⟨o, its, n, h1, h2, h3, h4, h5⟩) (strs_to ts))) h
end DL
namespace DL
open PySem PySem.Spec PyProof.Rows L2
variable [Tabs]
/-! ### defs whose last parameters have defaults -/
section
variable {P : Program} {w : World} {K : PySem.W.Frag} {mg : Str → Option Value} {base : Heap}
theorem fnD_okD {x qual : Str} {st : Stmt} {f : Addr} {fd : FuncData} {N ps : List Str} {dvs : List V} {kws : List (Str × V)} {k : Nat} {sp : SpD} {t : TSd} (F : FunD K x qual (defArgs st) (defBody st) (defScope st) dvs kws f fd) (S : FnScope N ps (defScope st)) (len : ∀ ds s Q, sp ds s Q → ds.length = ps.length)
    (hbody : ∀ (cd : Value) (A : Around) (outer : List Env) (s : Shared) (H : Hp) (E : XK), A.guards = some [] → Room k (A.deeper (envOfC qual (defScope st) s.heap.objs.size f cd)) → PDSs (cxD P w K mg base N qual (defScope st) f cd A outer s H E) (defBody st) t)
    (hsp : ∀ ds s Q, sp ds s Q → t { nx := fun _ s' => Q (.d .none) s', rt := Q } (startD N ds) s) : FnD P w K mg base (k + 1) f fd ps sp := by
  obtain ⟨oc, od, dV, kV, doc, pm, an, cd, ct, osl, rfl, lk, hcd, _, _⟩ := F.ex
  have lenV : ∀ vs H Q E, upSp K sp vs H Q E → vs.length = ps.length := fun vs H Q E ⟨ds, s, hid, Qd, r, _, h, _⟩ => (Paired.length r).trans (len ds s Qd h)
  refine ⟨lenV, fun A outer s H args us vs Q E hg hr e0 hb r hq => ?_⟩
  have KX : K.In s.heap := e0.mod.kin.keeps fun b o e => (e0.bs b o e).1
  have lim : s.heap.NoLimit := e0.mod.nolimit.keeps fun b o e => (e0.bs b o e).1
  have hkind : ∀ y ∈ ps.zip us, (defScope st).names.lookup y.1 = some .local ∨ ((defScope st).names.lookup y.1 = some .cell ∧ ((cellsFrom (s.heap.objs.size + 1) (defScope st).names []).lookup y.1).isSome = true) := fun y hy =>
    (S.par y.1 (List.of_mem_zip (show (y.1, y.2) ∈ ps.zip us from hy)).1).elim .inl fun q => .inr ⟨q, PySem.W.cellsFrom_some _ _ _ (.inl q)⟩
  refine codeAny_call_function hr.depth (KX _ _ lk) rfl S.co S.gen rfl (PySem.W.codeRec_of KX hcd) (hb _ _ _ _ (wpAny_newFunctionEnv_cells S.kind hkind fun env he s1 x1 => ?_))
  subst he
  refine ⟨lim.keeps x1.toInCall.keep, codeAny_func ?_⟩
  have ht := (hbody cd A outer s H E hg (hr.deeper _)).nox
  have I := inv_start (CX := CX0) (K := K) (mg := mg) (base := base) (E := E) S hr.hd e0 (lenV _ _ _ _ hq) r x1
  obtain ⟨ds, sd, hid, Qd, rd, Sd, hd, gd⟩ := hq
  have rdy : upS K t { nx := fun _ H' => Q .non H', rt := Q } (L2.start N vs) H := by
    refine ⟨startD N ds, sd, hid, { nx := fun _ s' => Qd (.d .none) s', rt := Qd }, re_start rd, Sd, hsp ds sd Qd hd, ?_, gd, ?_, ?_⟩
    · exact fun _ H' _ st' F' S' _ q => gd .non H' _ st' F' S' (.d .non) q
    · exact fun _ _ _ _ _ _ _ q => q.elim
    · exact fun _ _ _ _ _ _ _ q => q.elim
  refine wpAny_mono (ht.run [] s1 (L2.start N vs) H _ I rdy) (fun fl s' hs => ?_) fun e s' hs => hs
  cases fl with
  | ret u =>
    obtain ⟨v, σ', H', J, rv, q⟩ := hs
    exact ⟨v, H', J.os, J.bare, J.base, J.hok, rv, q⟩
  | next =>
    obtain ⟨σ', H', J, q⟩ := hs
    exact ⟨.non, H', J.os, J.bare, J.base, J.hok, rfl, q⟩
  | brk =>
    obtain ⟨_, _, _, q⟩ := hs
    exact False.elim q
  | cont =>
    obtain ⟨_, _, _, q⟩ := hs
    exact False.elim q
/-- a def with defaults, where it stands -/
structure HasD (K : PySem.W.Frag) (mg : Str → Option Value) (x : Str) (st : Stmt) (dvs : List V) : Prop where
  ex : ∃ f fd, mg x = some (.ref f) ∧ FunD K x x (defArgs st) (defBody st) (defScope st) dvs [] f fd
/-- callable with a promise, with all arguments or with those ahead of the defaults -/
structure CanD (P : Program) (w : World) (K : PySem.W.Frag) (mg : Str → Option Value) (base : Heap) (k : Nat) (x : Str) (dvs : List V) (ps : List Str) (sp : SpD) : Prop where
  ex : ∃ f fd, FnD P w K mg base k f fd ps sp ∧ mg x = some (.ref f) ∧ PySem.W.keepIn K (.ref f) = true ∧ Binds K fd ps [] ∧ ∃ ds, Vals dvs ds ∧ Binds K fd ps ds
theorem canD_of {x : Str} {st : Stmt} {N ps : List Str} {dvs : List V} {k : Nat} {sp : SpD} {t : TSd} (F : HasD K mg x st dvs) (S : FnScope N ps (defScope st)) (hd : dvs ≠ []) (n : Nat) (hn : n + dvs.length = ps.length)
    (b0 : ∀ (T : Addr) (kV doc pm : Value) (an : Option Addr) (cdv ct : Value) (us its : List Value), us.length = ps.length → its.length = dvs.length →
      ∃ k, bindArgs (PySem.W.fnOf x x (defArgs st) (defBody st) (defScope st) (.ref T) kV doc pm an cdv ct) ⟨us, []⟩ = seqItems? (.ref T) >>= k ∧ k (some its.toArray) = pure (ps.zip us))
    (b1 : ∀ (T : Addr) (kV doc pm : Value) (an : Option Addr) (cdv ct : Value) (us its : List Value), us.length = n → its.length = dvs.length →
      ∃ k, bindArgs (PySem.W.fnOf x x (defArgs st) (defBody st) (defScope st) (.ref T) kV doc pm an cdv ct) ⟨us, []⟩ = seqItems? (.ref T) >>= k ∧ k (some its.toArray) = pure (ps.zip (us ++ its)))
    (len : ∀ ds s Q, sp ds s Q → ds.length = ps.length)
    (hbody : ∀ (f : Addr) (cd : Value) (A : Around) (outer : List Env) (s : Shared) (H : Hp) (E : XK), A.guards = some [] → Room k (A.deeper (envOfC x (defScope st) s.heap.objs.size f cd)) → PDSs (cxD P w K mg base N x (defScope st) f cd A outer s H E) (defBody st) t)
    (hsp : ∀ ds s Q, sp ds s Q → t { nx := fun _ s' => Q (.d .none) s', rt := Q } (startD N ds) s) : CanD P w K mg base (k + 1) x dvs ps sp := by
  obtain ⟨f, fd, hm, F⟩ := F.ex
  refine ⟨f, fd, fnD_okD F S len (hbody f) hsp, hm, F.kp, ?_, ?_⟩
  · obtain ⟨ds, v, B⟩ := F.binds1 (ps := ps) ps.length dvs.length hd (by omega) fun T kV doc pm an cdv ct us its h1 h2 => by
      obtain ⟨k, e1, e2⟩ := b0 T kV doc pm an cdv ct us its h1 h2
      refine ⟨k, e1, ?_⟩
      rw [e2, ← h2, List.drop_length, List.append_nil]
    rw [List.drop_length] at v
    cases v
    exact B
  · obtain ⟨ds, v, B⟩ := F.binds1 (ps := ps) n 0 hd (by omega) fun T kV doc pm an cdv ct us its h1 h2 => b1 T kV doc pm an cdv ct us its h1 h2
    exact ⟨ds, v, B⟩
end
section
variable {X : Cx} {k : Nat} {ps ks : List Str} {sp : SpD} {x : Str} {dvs : List V} {dds : List D} {p pos : Pos} {e : Expr} {es : List Expr} {kws : List Keyword} {t tk : TAd}
theorem pd_callD (C : CanD X.prog X.w X.K X.mg X.base k x dvs ps sp) (hG : X.A.guards = some []) (hr : Room k X.A) (hg : Gl X x) (ha : PDA X (e :: es) t) (hdb : (x == ("__debug__" : Str)) = false := by decide)
    (he : starEach (e :: es) X.env = (false, eval e X.env) :: starEach es X.env := by rfl) (hpl : (backTo pos (starEach es X.env)).any (·.1) = false := by rfl) : PD X (.Call (.Name x p) (e :: es) [] pos) (dFn0 sp t) := by
  obtain ⟨f, fd, F, hm, kp, B, _⟩ := C.ex
  refine PE.imp (pd_fn (dds := []) F hG hr hg hm kp B ⟨[], .nil, fun _ _ => .nil⟩ ha hdb he hpl) fun σ H Q ⟨e, s, hid, Qd, re, S, h, k⟩ => ⟨e, s, hid, Qd, re, S, ?_, k⟩
  have ee : (fun xs st1 => sp (xs ++ []) st1 Qd) = fun xs st1 => sp xs st1 Qd := by
    funext xs st1
    rw [List.append_nil]
  show t e s (fun xs st1 => sp (xs ++ []) st1 Qd)
  rw [ee]
  exact h
theorem pd_callDd (C : CanD X.prog X.w X.K X.mg X.base k x dvs ps sp) (hd : ∀ st H, DvsD X.K st H dvs dds) (hG : X.A.guards = some []) (hr : Room k X.A) (hg : Gl X x) (ha : PDA X (e :: es) t) (hdb : (x == ("__debug__" : Str)) = false := by decide)
    (he : starEach (e :: es) X.env = (false, eval e X.env) :: starEach es X.env := by rfl) (hpl : (backTo pos (starEach es X.env)).any (·.1) = false := by rfl) : PD X (.Call (.Name x p) (e :: es) [] pos) (dFn sp dds t) := by
  obtain ⟨f, fd, F, hm, kp, _, ds, v, B⟩ := C.ex
  exact pd_fn F hG hr hg hm kp B ⟨dvs, v, hd⟩ ha hdb he hpl
end
theorem gtup_mk {K : PySem.W.Frag} {h : Heap} {mg : Str → Option Value} {x : Str} {ts : List Str} {a : Addr} {o : Obj} {its : List Value} {n : Nat} (X : K.In h) (G : h.Ns mainGlobals mg)
    (e : PySem.W.nsIn K mainGlobals x = some (some (.ref a))) (l : K.lookup a = some o) (c : o.cls = Value.type "tuple") (d : o.data = .seq its.toArray n) (s : its.length ≤ sizeLine) (v : Vals (ts.map V.str) its) : GTup K mg x ts :=
  ⟨a, o, its.toArray, n, PySem.W.mg_of X G e, l, c, d, by simpa using s, by simpa using v⟩
theorem hasD_mk {K : PySem.W.Frag} {h : Heap} {mg : Str → Option Value} {x : Str} {st : Stmt} {dvs : List V} {f : Addr} {od an : Option Addr} {sl : Array (Option Value)} {oc kV dc pm cd ct : Value} {T : Addr} {o : Obj} {its : List Value} {n : Nat} (X : K.In h) (G : h.Ns mainGlobals mg)
    (a : PySem.W.nsIn K mainGlobals x = some (some (.ref f))) (l : K.lookup f = some ⟨oc, od, .func (PySem.W.fnOf x x (defArgs st) (defBody st) (defScope st) (.ref T) kV dc pm an cd ct), sl⟩) (c : PySem.W.codeIn K cd x = true) (k : PySem.W.keepIn K (.ref f) = true)
    (hd : dvs ≠ []) (lT : K.lookup T = some o) (oT : o.data = .seq its.toArray n) (vT : Vals dvs its) : HasD K mg x st dvs :=
  ⟨f, _, PySem.W.mg_of X G a, ⟨oc, od, _, kV, dc, pm, an, cd, ct, sl, rfl, l, c, .inr ⟨hd, T, o, its, n, rfl, lT, oT, vT⟩, .inl rfl⟩, k⟩
end DL
namespace DL
open PySem PySem.Spec PyProof.Rows L2
variable [Tabs]
/-! ### int of a truth, max and sum of a list -/
section
variable {X : Cx}
def cIntB : RCd := fun ds st Q => match ds with
  | [.d (.int i)] => Q (.d (.int i)) st
  | [.d (.bool b)] => Q (.d (.int (if b = true then 1 else 0))) st
  | _ => False
theorem c_intB : CallR X (.type "int") (upC X.K cIntB) := CallR.imp call_int1 fun vs H Q ⟨ds, st, hid, Qd, r, S, w, k⟩ => by
  unfold cIntB at w
  split at w
  · obtain ⟨v, rfl, r1⟩ := r.one
    exact .inl ⟨_, by rw [int_at r1], k.now S (.d (.int _)) w⟩
  · obtain ⟨v, rfl, r1⟩ := r.one
    exact .inr ⟨_, by rw [bl_at r1], k.now S (.d (.int _)) w⟩
  · exact w.elim
theorem ints_at {K : PySem.W.Frag} {st hid : Sto} {H : Hp} : ∀ {vs : List V} {ns : List Int}, DvsD K (jn st hid) H vs (ns.map fun n => .d (.int n)) → vs = ns.map V.int
  | [], [], _ => rfl
  | _ :: _, n :: ns, .cons h t => by
    have e := int_at h
    have e2 := ints_at t
    subst e
    rw [e2]
    rfl
def cMaxL : RCd := fun ds st Q => match ds with
  | [x] => ∃ ns : List Int, lstOf x st = some (ns.map fun n => .d (.int n)) ∧ 0 < ns.length ∧ ∀ m, m ∈ ns → (∀ y, y ∈ ns → y ≤ m) → Q (.d (.int m)) st
  | _ => False
theorem c_maxL (hc : X.calm = true) : CallR X (.builtin "max") (upC X.K cMaxL) := CallR.imp (cr_max hc) fun vs H Q ⟨ds, st, hid, Qd, r, S, w, k⟩ => by
  unfold cMaxL at w
  split at w
  · obtain ⟨ns, e, h0, q⟩ := w
    obtain ⟨v, rfl, r1⟩ := r.one
    obtain ⟨a, xs, rfl, h, rs⟩ := lstOf_at r1 S e
    rw [ints_at rs] at h
    exact ⟨a, ns, rfl, h, h0, fun m hm hy => k.now S (.d (.int _)) (q m hm hy)⟩
  · exact w.elim
def cSumL : RCd := fun ds st Q => match ds with
  | [x] => ∃ ns : List Int, lstOf x st = some (ns.map fun n => .d (.int n)) ∧ Q (.d (.int ns.sum)) st
  | _ => False
theorem c_sumL (hc : X.calm = true) : CallR X (.builtin "sum") (upC X.K cSumL) := CallR.imp (cr_sum hc) fun vs H Q ⟨ds, st, hid, Qd, r, S, w, k⟩ => by
  unfold cSumL at w
  split at w
  · obtain ⟨ns, e, q⟩ := w
    obtain ⟨v, rfl, r1⟩ := r.one
    obtain ⟨a, xs, rfl, h, rs⟩ := lstOf_at r1 S e
    rw [ints_at rs] at h
    exact ⟨a, ns, rfl, h, k.now S (.d (.int _)) q⟩
  · exact w.elim
end
end DL
namespace DL
open PySem PySem.Spec PyProof.Rows L2
variable [Tabs]
theorem cut_from {α : Type} {l : List α} {i : Nat} (h : i ≤ l.length) : cutP l (some (i : Int)) none = l.drop i := by
  have e1 : HT.sIx l.length 0 (some (i : Int)) = i := by
    show (if (i : Int) < 0 then ((i : Int) + ↑l.length).toNat else min (i : Int).toNat l.length) = i
    rw [if_neg (by omega)]
    omega
  have e2 : HT.sIx l.length l.length none = l.length := rfl
  unfold cutP
  rw [e1, e2]
  exact List.take_of_length_le (by rw [List.length_drop]; omega)
theorem cut_to {α : Type} {l : List α} {i : Nat} (h : i ≤ l.length) : cutP l none (some (i : Int)) = l.take i := by
  have e1 : HT.sIx l.length l.length (some (i : Int)) = i := by
    show (if (i : Int) < 0 then ((i : Int) + ↑l.length).toNat else min (i : Int).toNat l.length) = i
    rw [if_neg (by omega)]
    omega
  have e2 : HT.sIx l.length 0 none = 0 := rfl
  unfold cutP
  rw [e1, e2]
  rfl
theorem cut_last {α : Type} {l : List α} : cutP l none (some (-1)) = l.take (l.length - 1) := by
  have e1 : HT.sIx l.length l.length (some (-1)) = l.length - 1 := by
    show (if (-1 : Int) < 0 then ((-1 : Int) + ↑l.length).toNat else min (-1 : Int).toNat l.length) = l.length - 1
    rw [if_pos (by omega)]
    omega
  have e2 : HT.sIx l.length 0 none = 0 := rfl
  unfold cutP
  rw [e1, e2]
  rfl
theorem cut_at_last {α : Type} {l : List α} : cutP l (some (-1)) none = l.drop (l.length - 1) := by
  have e1 : HT.sIx l.length 0 (some (-1)) = l.length - 1 := by
    show (if (-1 : Int) < 0 then ((-1 : Int) + ↑l.length).toNat else min (-1 : Int).toNat l.length) = l.length - 1
    rw [if_pos (by omega)]
    omega
  have e2 : HT.sIx l.length l.length none = l.length := rfl
  unfold cutP
  rw [e1, e2]
  exact List.take_of_length_le (by rw [List.length_drop]; omega)
theorem cut_tail {α : Type} {a : α} {r : List α} : cutP (a :: r) (some 1) none = r := cut_from (i := 1) (by simp)
theorem in_strs (w : Str) (ws : List Str) : ((ws.map PyData.str).any fun z => PyData.eqv z (.str w)) = ws.contains w := by
  induction ws with
  | nil => rfl
  | cons a r ih =>
    rw [List.map_cons, List.any_cons, ih, List.contains_cons]
    congr 1
    show (a == w) = (w == a)
    rw [Bool.eq_iff_iff, beq_iff_eq, beq_iff_eq]
    exact eq_comm
theorem rin_strs {neg : Bool} {w : Str} {ws : List Str} {st : Sto} {Q : Kd} (h : Q (.d (.bool (neg != ws.contains w))) st) : rInV neg (.d (.str w)) (.d (.tuple (ws.map PyData.str))) st Q := by
  refine ⟨rfl, ?_, ?_⟩
  · rw [List.all_map]
    exact List.all_eq_true.mpr fun _ _ => rfl
  · rw [in_strs]
    exact h
theorem in_ints (w : Int) (ws : List Int) : ((ws.map PyData.int).any fun z => PyData.eqv z (.int w)) = ws.contains w := by
  induction ws with
  | nil => rfl
  | cons a r ih =>
    rw [List.map_cons, List.any_cons, ih, List.contains_cons]
    congr 1
    have : PyData.eqv (.int a) (.int w) = decide (a = w) := eqv_int
    rw [this, Bool.eq_iff_iff, decide_eq_true_iff, beq_iff_eq]
    exact eq_comm
theorem rin_intsL {neg : Bool} {w : Int} {ws : List Int} {st : Sto} {Q : Kd} (h : Q (.d (.bool (neg != ws.contains w))) st) : rInV neg (.d (.int w)) (.d (.list (ws.map PyData.int))) st Q := by
  refine ⟨ws.map PyData.int, rfl, .inl ⟨rfl, ?_⟩, ?_⟩
  · rw [List.all_map]
    exact List.all_eq_true.mpr fun _ _ => rfl
  · rw [in_ints]
    exact h
end DL
namespace DG
open PySem PySem.Spec PyProof.Rows L2
/-! ### the context of a generator expression's frame -/
def gEnv (X : Cx) (scope : Scope) (C : Addr) (code : Value) : Env := genEnv scope (cloFrom X.env.cells scope.names []) C code builtinsNs X.env
def gx (X : Cx) (N : List Str) (scope : Scope) (C : Addr) (code : Value) (fp : List Addr) (s : Shared) (H : Hp) : Cx :=
  { X with A := X.A.in1.in1.deeper (gEnv X scope C code), N := N, s_0 := s, H_0 := H, env := gEnv X scope C code, outer := X.stack, stack := gEnv X scope C code :: X.stack, ex := fp, fn := fun _ => false, calm := true, pn := [], xe := fun _ _ => False }
/-- the scope of the expression: its one name x, the walked thing at .0, names of the def at these slots -/
structure GSc (X : Cx) (scope : Scope) (x : Str) (fvs : List (Str × Nat)) : Prop where
  kind : scope.kind = .function
  co : scope.isCoroutine = false
  cell : ∀ y ∈ scope.names, y.2 ≠ .cell
  dot : scope.names.lookup (".0" : Str) = some NameKind.local
  loc : scope.names.lookup x = some .local
  free : ∀ y ∈ scope.names, y.2 = .free → X.env.kindOf y.1 = some .cell ∨ X.env.kindOf y.1 = some .free
  fv : ∀ p ∈ fvs, scope.names.lookup p.1 = some .free ∧ X.N[p.2]? = some p.1
def gN (x : Str) (fvs : List (Str × Nat)) : List Str := x :: fvs.map (·.1)
def gσ (σ : L2.St) (fvs : List (Str × Nat)) (o : Option V) : L2.St := o :: fvs.map fun p => (σ[p.2]?).getD none
section
variable {X : Cx} {pins : List (Addr × Obj)} {σ : L2.St} {H : Hp} {s : Shared} {scope : Scope} {x : Str} {fvs : List (Str × Nat)} {fp : List Addr} {code : Value}
theorem hasCell (I : Inv X pins σ H s) (S : GSc X scope x fvs) : ∀ y ∈ scope.names, y.2 = .free → ∃ c, X.env.cells.lookup y.1 = some c := fun y hy e => I.ok.has _ (S.free y hy e)
theorem clo_in (I : Inv X pins σ H s) (S : GSc X scope x fvs) {y : Str} {c : Addr} (h : (y, c) ∈ cloFrom X.env.cells scope.names []) : X.env.cells.lookup y = some c := by
  rcases cloFrom_mem h with h | ⟨h1, rfl⟩
  · cases h
  · obtain ⟨c, hc⟩ := hasCell I S _ h1 rfl
    rw [hc]
    rfl
theorem clo_look (I : Inv X pins σ H s) (S : GSc X scope x fvs) {y : Str} (hl : scope.names.lookup y = some .free) : ∃ c, (cloFrom X.env.cells scope.names []).lookup y = some c ∧ X.env.cells.lookup y = some c := by
  obtain ⟨c, e⟩ := mem_lookup (cloFrom_has (cells := X.env.cells) (acc := []) (PySem.mem_of_lookup hl))
  exact ⟨c, e, clo_in I S (PySem.mem_of_lookup e)⟩
theorem gx_ok {k : Nat} (I : Inv X pins σ H s) (hr : Room k X.A) (S : GSc X scope x fvs) (hfp : ∀ b ∈ fp, FpOk X pins H b ∧ b < s.heap.objs.size) : (gx X (gN x fvs) scope s.heap.objs.size code fp s H).Ok where
  mod := I.ok.mod
  kind := S.kind
  glob := I.ok.glob
  blt := rfl
  above := Nat.le_refl _
  inj := fun y z c a b => I.ok.inj y z c (clo_in I S (PySem.mem_of_lookup a)) (clo_in I S (PySem.mem_of_lookup b))
  has := fun y hy => by
    have key : scope.names.lookup y = some .cell ∨ scope.names.lookup y = some .free := hy
    rcases key with q | q
    · exact absurd rfl (S.cell _ (PySem.mem_of_lookup q))
    · obtain ⟨c, e, _⟩ := clo_look I S q
      exact ⟨c, e⟩
  cab := fun y c z => by cases z
  hd := fun _ => hr.hd
  frames := by
    show pushEnvs [_] X.A.frames = _
    rw [I.ok.frames]
    rfl
  stk := .inr ⟨rfl, rfl⟩
  exf := fun b hb => ⟨Nat.ne_of_lt (hfp b hb).2, fun y c e => (hfp b hb).1.2.2.2.2.1 y c (clo_in I S (PySem.mem_of_lookup e))⟩
  bs := I.bs
  bsz := Nat.le_trans I.ok.bsz I.sz
  noex := fun b o e hb => by
    rcases (hfp b hb).1.2.2.2.1 with z | z
    · exact I.ok.noex b o e z
    · exact absurd (Nat.lt_of_lt_of_le (Heap.lt_size (I.ok.bs b o e).1) z) (Nat.lt_irrefl _)
  exfs := fun b hb z => by
    rcases List.mem_cons.mp (I.stkSub b z) with e | e
    · exact (hfp b hb).1.2.1 e
    · exact (hfp b hb).1.2.2.1 e
  funs := I.stack
  frf := I.stkFree
end
end DG
namespace DG
open PySem PySem.Spec PyProof.Rows L2
section
variable {X : Cx} {pins : List (Addr × Obj)} {σ : L2.St} {H : Hp} {s : Shared} {scope : Scope} {x : Str} {fvs : List (Str × Nat)} {fp : List Addr} {code : Value}
theorem gσ_at {o : Option V} {i : Nat} {v : V} (h : (gσ σ fvs o)[i + 1]? = some (some v)) : ∃ p, fvs[i]? = some p ∧ σ[p.2]? = some (some v) := by
  unfold gσ at h
  rw [List.getElem?_cons_succ, List.getElem?_map] at h
  cases q : fvs[i]? with
  | none =>
    rw [q] at h
    cases h
  | some p =>
    rw [q] at h
    have h' : (σ[p.2]?).getD none = some v := Option.some.inj h
    refine ⟨p, rfl, ?_⟩
    cases z : σ[p.2]? with
    | none =>
      rw [z] at h'
      cases h'
    | some w =>
      rw [z] at h'
      have e : w = some v := h'
      rw [e]
/-- the generator has just been made -/
theorem gen_start {k : Nat} {it : Value} {fo go : Obj} {h' : Heap} {G : Array GenState} {T : Nat} (I : Inv X pins σ H s) (hr : Room k X.A) (S : GSc X scope x fvs) (hfp : ∀ b ∈ fp, FpOk X pins H b ∧ b < s.heap.objs.size)
    (hn : h'.Ns s.heap.objs.size (fun y => if y = ".0" then some it else none)) (hsb : Heap.SameBut s.heap.objs.size (s.heap.push fo) h') (hG : AllBare G) (hgo : ∀ v, go.data ≠ .cell v) (hgf : go.isFreed = false) :
    Inv (gx X (gN x fvs) scope s.heap.objs.size code fp s H) [(h'.objs.size, go)] (gσ σ fvs none) H { s with gens := G, toks := T, heap := h'.push go } := by
  have hsz : h'.objs.size = s.heap.objs.size + 1 := by
    rw [hsb.1, Heap.size_push]
  have k1 : ∀ b o, s.heap.get? b = some o → (h'.push go).get? b = some o := fun b o e => by
    refine Heap.get?_push_of_some _ ((hsb.2 b ?_).trans (Heap.get?_push_of_some _ e))
    exact Nat.ne_of_lt (Heap.lt_size e)
  have hC : H s.heap.objs.size = none := I.hok.fresh (Nat.le_refl _)
  have ha : H h'.objs.size = none := I.hok.fresh (by omega)
  have hns : (h'.push go).Ns s.heap.objs.size (fun y => if y = ".0" then some it else none) := by
    obtain ⟨o, es, ep, ho, r⟩ := hn
    exact ⟨o, es, ep, Heap.get?_push_of_some _ ho, r⟩
  refine ⟨gx_ok I hr S hfp, rfl, hG, Un.kept k1, ⟨_, hns, fun i y v e1 e2 e3 => ?_⟩, fun y c e => ?_, hC, fun y c e => I.freeC y c (clo_in I S (PySem.mem_of_lookup e)), fun p hp => ?_, I.hok.kept k1, by simp [gσ, gN, gx]⟩
  · cases i with
    | zero =>
      cases e2
    | succ i =>
      obtain ⟨p, hp, hv⟩ := gσ_at e2
      have e1' : (fvs.map (·.1))[i]? = some y := e1
      rw [List.getElem?_map, hp] at e1'
      cases e1'
      obtain ⟨f1, f2⟩ := S.fv p (List.mem_of_getElem? hp)
      obtain ⟨c, c1, c2⟩ := clo_look I S f1
      obtain ⟨m, _, hl⟩ := I.loc
      have kd := S.free _ (PySem.mem_of_lookup f1) rfl
      have vis : Vis X.env.scope p.1 := kd.elim (fun q => .inr (.inl q)) fun q => .inr (.inr q)
      obtain ⟨u, ru, lk⟩ := hl p.2 p.1 v f2 hv vis
      refine ⟨u, ru, .inr ⟨.inr f1, c, c1, ?_⟩⟩
      rcases lk with ⟨kl, _⟩ | ⟨_, c', h1, o, ho, hd⟩
      · rcases kd with q | q
        · rw [q] at kl; cases kl
        · rw [q] at kl; cases kl
      · rw [c2] at h1
        cases h1
        exact ⟨o, k1 _ _ ho, hd⟩
  · obtain ⟨v, o, ho, hd⟩ := I.cell y c (clo_in I S (PySem.mem_of_lookup e))
    exact ⟨v, o, k1 _ _ ho, hd⟩
  · have hp' : p = (h'.objs.size, go) := List.mem_singleton.mp hp
    subst hp'
    refine ⟨Heap.get?_push_size _ hgf, ha, ?_, fun z => ?_, hgo⟩
    · show h'.objs.size ≠ s.heap.objs.size
      omega
    · have z' : h'.objs.size ∈ frs X.stack := z
      rcases List.mem_cons.mp (I.stkSub _ z') with q | q
      · have h8 := I.lt
        rw [← q] at h8
        have h9 : (h'.objs.size : Nat) < s.heap.objs.size := h8
        omega
      · exact I.nofs (show s.heap.objs.size ≤ h'.objs.size by omega) q
/-- only what the frames don't hold has changed: the state is as good -/
theorem inv_same {X : Cx} {pins : List (Addr × Obj)} {σ : L2.St} {H : Hp} {s s' : Shared} (I : Inv X pins σ H s) (h1 : s'.heap = s.heap) (h2 : s'.os = s.os) (h3 : AllBare s'.gens) : Inv X pins σ H s' := by
  obtain ⟨hh, g, d, t, o⟩ := s'
  dsimp only at h1 h2 h3
  subst h1 h2
  exact ⟨I.ok, I.os, h3, I.base, I.loc, I.cell, I.free, I.freeC, I.pin, I.hok, I.len⟩
end
end DG
namespace DG
open PySem PySem.Spec PyProof.Rows L2 GenW
theorem over_gen {A : Around} {elt target iter : Expr} {ifs : List Expr} {scope : Scope} {pos : Pos} {it : Value} {env : Env} :
    A.over (.compLoop (.GeneratorExp elt [⟨target, iter, ifs, 0⟩] scope pos) 0 it .none env) [] = A.deeper env := by
  first
    | rfl
    | (obtain ⟨hd, d, fr, gs, u⟩ := A; simp [Around.over, Around.deeper, marksOver, frameCount, unitsOf, envsOf, guardsOf, pushEnvs, pushGuards, Code.envs, Code.env?, Code.isFrame, Code.guards, Code.isGuard, Code.weight, Code.frames, Code.isCreation, Code.isCaller, Code.cUnits])
theorem over_gen0 {A : Around} {elt target iter : Expr} {ifs : List Expr} {scope : Scope} {pos : Pos} {it : Value} {env : Env} :
    A.over (.compStart (.GeneratorExp elt [⟨target, iter, ifs, 0⟩] scope pos) 0 it .none env) [] = A.deeper env := by
  first
    | rfl
    | (obtain ⟨hd, d, fr, gs, u⟩ := A; simp [Around.over, Around.deeper, marksOver, frameCount, unitsOf, envsOf, guardsOf, pushEnvs, pushGuards, Code.envs, Code.env?, Code.isFrame, Code.guards, Code.isGuard, Code.weight, Code.frames, Code.isCreation, Code.isCaller, Code.cUnits])
/-- the objects at these places -/
theorem objs_at {h : Heap} : ∀ {fp : List Addr}, (∀ b ∈ fp, ∃ o, h.get? b = some o ∧ ∀ v, o.data ≠ .cell v) → ∃ ob : List (Addr × Obj), (∀ p ∈ ob, p.1 ∈ fp ∧ h.get? p.1 = some p.2 ∧ ∀ v, p.2.data ≠ .cell v) ∧ ∀ b ∈ fp, ∃ o, (b, o) ∈ ob
  | [], _ => ⟨[], ⟨fun p z => absurd z (by simp), fun b z => absurd z (by simp)⟩⟩
  | b :: fp, H => by
    obtain ⟨o, h1, h2⟩ := H b (by simp)
    obtain ⟨ob, q1, q2⟩ := objs_at (fp := fp) fun c hc => H c (List.mem_cons_of_mem _ hc)
    refine ⟨(b, o) :: ob, fun p hp => ?_, fun c hc => ?_⟩
    · rcases List.mem_cons.mp hp with rfl | hp
      · exact ⟨List.mem_cons_self, h1, h2⟩
      · exact ⟨List.mem_cons_of_mem _ (q1 p hp).1, (q1 p hp).2⟩
    · rcases List.mem_cons.mp hc with rfl | hc
      · exact ⟨o, List.mem_cons_self⟩
      · obtain ⟨u, hu⟩ := q2 c hc
        exact ⟨u, List.mem_cons_of_mem _ hu⟩
/-- what is known of the walk: at turn i, with the heap H, it goes on or stops -/
structure GW (J : It) (te : TE) (σ : L2.St) (fvs : List (Str × Nat)) (W : Nat → Hp → Prop) (Qt Qf : Hp → Prop) : Prop where
  turn : ∀ i H, W i H → (J.go i H ∧ i < sizeLine ∧ ∀ v H1, J.yld i H v H1 → te (gσ σ fvs (some v)) H1 fun y H2 => ∃ b, y = .bl b ∧ (b = true → W (i + 1) H2) ∧ (b = false → Qf H2)) ∨ (J.stop i H ∧ Qt H)
/-- where the iterator's objects stand: none of the frame's -/
structure GF (X : Cx) (scope : Scope) (C a : Addr) (fp : List Addr) : Prop where
  loc : ∀ b ∈ fp, b ≠ C
  fs : ∀ b ∈ fp, b ∉ frs X.stack
  cell : ∀ b ∈ fp, ∀ x c, (cloFrom X.env.cells scope.names []).lookup x = some c → c ≠ b
  gen : ∀ b ∈ fp, b ≠ a
section
variable {X : Cx} {scope : Scope} {x : Str} {fvs : List (Str × Nat)} {C a : Addr} {code : Value} {fp : List Addr} {s0 : Shared} {H0 : Hp} {go : Obj} {g : Nat} {σ : L2.St} {it : Addr} {tn : Nat → Heap → Prop} {J : It} {te : TE} {W : Nat → Hp → Prop} {Qt Qf : Hp → Prop}
/-- the generator between two turns -/
structure GI (X : Cx) (scope : Scope) (x : Str) (fvs : List (Str × Nat)) (C a : Addr) (code : Value) (fp : List Addr) (s0 : Shared) (H0 : Hp) (go : Obj) (g : Nat) (σ : L2.St) (tn : Nat → Heap → Prop) (i : Nat) (H : Hp) (s : Shared) : Prop where
  inv : ∃ o, Inv (gx X (gN x fvs) scope C code fp s0 H0) [(a, go)] (gσ σ fvs o) H s
  at_ : tn i s.heap
  no : ∀ b ∈ fp, H b = none
  sz : g < s.gens.size
theorem GI.same {i : Nat} {H : Hp} {s s' : Shared} (I : GI X scope x fvs C a code fp s0 H0 go g σ tn i H s) (h1 : s'.heap = s.heap) (h2 : s'.os = s.os) (h3 : AllBare s'.gens) (h4 : s'.gens.size = s.gens.size) : GI X scope x fvs C a code fp s0 H0 go g σ tn i H s' := by
  obtain ⟨o, q⟩ := I.inv
  exact ⟨⟨o, inv_same q h1 h2 h3⟩, by rw [h1]; exact I.at_, I.no, by rw [h4]; exact I.sz⟩
theorem GI.fps {i : Nat} {H : Hp} {s : Shared} (I : GI X scope x fvs C a code fp s0 H0 go g σ tn i H s) (F : GF X scope C a fp) : ∀ b ∈ fp, FpOk (gx X (gN x fvs) scope C code fp s0 H0) [(a, go)] H b := fun b hb =>
  ⟨I.no b hb, F.loc b hb, F.fs b hb, .inl hb, fun y c e => F.cell b hb y c e, fun p hp => by
    have hp' : p = (a, go) := List.mem_singleton.mp hp
    subst hp'
    exact fun z => F.gen b hb z.symm⟩
/-- with the iterator's objects pinned -/
theorem pin_on {H : Hp} {s : Shared} {σ' : L2.St} (F : GF X scope C a fp) {ob : List (Addr × Obj)} (hob : ∀ p ∈ ob, p.1 ∈ fp ∧ s.heap.get? p.1 = some p.2 ∧ ∀ v, p.2.data ≠ .cell v) (no : ∀ b ∈ fp, H b = none)
    (I : Inv (gx X (gN x fvs) scope C code fp s0 H0) [(a, go)] σ' H s) : Inv (gx X (gN x fvs) scope C code fp s0 H0) ((a, go) :: ob) σ' H s := I.pins_of fun p hp => by
  rcases List.mem_cons.mp hp with rfl | hp
  · exact I.pin _ (List.mem_append_right _ List.mem_cons_self)
  · obtain ⟨h1, h2, h3⟩ := hob p hp
    exact ⟨h2, no _ h1, F.loc _ h1, F.fs _ h1, h3⟩
theorem pin_off {H : Hp} {s : Shared} {σ' : L2.St} {ob : List (Addr × Obj)} (I : Inv (gx X (gN x fvs) scope C code fp s0 H0) ((a, go) :: ob) σ' H s) : Inv (gx X (gN x fvs) scope C code fp s0 H0) [(a, go)] σ' H s := I.pins_of fun p hp =>
  I.pin p (List.mem_append_right _ (by
    rw [List.mem_singleton.mp hp]
    exact List.mem_cons_self))
abbrev gP (X : Cx) (scope : Scope) (x : Str) (fvs : List (Str × Nat)) (C a : Addr) (code : Value) (fp : List Addr) (s0 : Shared) (H0 : Hp) (go : Obj) (g : Nat) (σ : L2.St) (Qt : Hp → Prop) : Nat → Shared → Shared → Prop := fun _ _ s1 => ∃ H o, Inv (gx X (gN x fvs) scope C code fp s0 H0) [(a, go)] (gσ σ fvs o) H s1 ∧ g < s1.gens.size ∧ Qt H
abbrev gY (X : Cx) (scope : Scope) (x : Str) (fvs : List (Str × Nat)) (C a : Addr) (code : Value) (fp : List Addr) (s0 : Shared) (H0 : Hp) (go : Obj) (g : Nat) (σ : L2.St) (tn : Nat → Heap → Prop) (W : Nat → Hp → Prop) (Qf : Hp → Prop) : Protocol := fun n _ v s kap =>
  ∃ i H b, n + 1 + i = sizeLine ∧ v = .bool b ∧ GI X scope x fvs C a code fp s0 H0 go g σ tn (i + 1) H s ∧ (b = true → W (i + 1) H) ∧ (b = false → Qf H) ∧
    ∀ s' : Shared, s'.heap = s.heap → s'.os = s.os → AllBare s'.gens → s'.gens.size = s.gens.size → b = true → kap (.send .none) s'
theorem seg_b {R : GenEnd} {Y : Protocol} {n : Nat} {s₀ s : Shared} {A : Around} {elt target iter : Expr} {ifs : List Expr} {pos : Pos} {itv : Value} {env : Env} {M : Model} {α β : Type} {m : Sem α} {K : α → Sem β} {K' : β → Sem PySem.Fin} {Hx : Value → Sem PySem.Fin} {gd : Bool → Bool} {lv : List Value → List Value}
    (h : wpAny M (A.deeper env) m (fun r s' => Seg M A R Y n s₀ (.compLoop (.GeneratorExp elt [⟨target, iter, ifs, 0⟩] scope pos) 0 itv .none env) ((K r).wrap K' Hx gd lv) [] s') (fun _ _ => False) s) :
    Seg M A R Y n s₀ (.compLoop (.GeneratorExp elt [⟨target, iter, ifs, 0⟩] scope pos) 0 itv .none env) ((m >>= K).wrap K' Hx gd lv) [] s :=
  seg_bind_wrap (by
    rw [over_gen]
    exact wpAny_mono h (fun _ _ q => q) fun _ _ q => q.elim)
theorem seg_turns {elt iter : Expr} {px pos : Pos} (S : GSc X scope x fvs) (hN : (gN x fvs).Nodup) (F : GF X scope C a fp) (hcalm : X.calm = true) (T : Turn X.prog X.w X.K (.Name x px) J fp it tn) (hel : PE (gx X (gN x fvs) scope C code fp s0 H0) elt te) (hw : GW J te σ fvs W Qt Qf) :
    ∀ (n i : Nat) (s₀ s : Shared) (H : Hp), n + i = sizeLine → GI X scope x fvs C a code fp s0 H0 go g σ tn i H s → W i H →
      Seg (model X.prog X.w) X.A.in1.in1 (fun n s₀ r s₁ => r = .ok .next ∧ gP X scope x fvs C a code fp s0 H0 go g σ Qt n s₀ s₁) (gY X scope x fvs C a code fp s0 H0 go g σ tn W Qf) n s₀
        (.compLoop (.GeneratorExp elt [⟨.Name x px, iter, [], 0⟩] scope pos) 0 (.ref it) .none (gEnv X scope C code))
        ((model X.prog X.w).den (.compLoop (.GeneratorExp elt [⟨.Name x px, iter, [], 0⟩] scope pos) 0 (.ref it) .none (gEnv X scope C code))) [] s := by
  have stop : ∀ (n i : Nat) (s₀ s : Shared) (H : Hp), GI X scope x fvs C a code fp s0 H0 go g σ tn i H s → J.stop i H → Qt H →
      Seg (model X.prog X.w) X.A.in1.in1 (fun n s₀ r s₁ => r = .ok .next ∧ gP X scope x fvs C a code fp s0 H0 go g σ Qt n s₀ s₁) (gY X scope x fvs C a code fp s0 H0 go g σ tn W Qf) n s₀
        (.compLoop (.GeneratorExp elt [⟨.Name x px, iter, [], 0⟩] scope pos) 0 (.ref it) .none (gEnv X scope C code))
        ((model X.prog X.w).den (.compLoop (.GeneratorExp elt [⟨.Name x px, iter, [], 0⟩] scope pos) 0 (.ref it) .none (gEnv X scope C code))) [] s := by
    intro n i s₀ s H I hs q
    obtain ⟨o, J0⟩ := I.inv
    show Seg _ _ _ _ n s₀ _ ((compTurn (.GeneratorExp elt [⟨.Name x px, iter, [], 0⟩] scope pos) 0 (.ref it) .none (gEnv X scope C code)).onRaise (leaving (gEnv X scope C code))) [] s
    rw [compTurn_gen, Sem.onRaise_eq_wrap]
    refine seg_b (wpAny_standAt (seg_b (wpAny_gsz (n := g + 1) I.sz (wpAny_mono (T.done (gx X (gN x fvs) scope C code fp s0 H0) rfl rfl rfl rfl i [(a, go)] s _ H (fun _ _ => False) J0 (I.fps F) I.at_ hs) (fun r s1 hr hz => ?_) fun _ _ z => z.elim))))
    obtain ⟨rfl, J1⟩ := hr
    exact seg_end (.ok .next) ⟨rfl, H, o, J1, hz, q⟩
  intro n
  induction n with
  | zero =>
    intro i s₀ s H hn I w
    rcases hw.turn i H w with ⟨_, hlt, _⟩ | ⟨hs, q⟩
    · omega
    · exact stop 0 i s₀ s H I hs q
  | succ n ih =>
    intro i s₀ s H hn I w
    rcases hw.turn i H w with ⟨hgo, hlt, hy⟩ | ⟨hs, q⟩
    · obtain ⟨o, J0⟩ := I.inv
      show Seg _ _ _ _ (n + 1) s₀ _ ((compTurn (.GeneratorExp elt [⟨.Name x px, iter, [], 0⟩] scope pos) 0 (.ref it) .none (gEnv X scope C code)).onRaise (leaving (gEnv X scope C code))) [] s
      rw [compTurn_gen, Sem.onRaise_eq_wrap]
      refine seg_b (wpAny_standAt (seg_b (wpAny_gsz (n := g + 1) I.sz (wpAny_mono (T.item (gx X (gN x fvs) scope C code fp s0 H0) rfl rfl rfl rfl i [(a, go)] s _ H (fun _ _ => False) J0 (I.fps F) I.at_ hgo) (fun r s1 hr hz1 => ?_) fun _ _ z => z.elim))))
      obtain ⟨u, rfl, hr⟩ := hr
      refine seg_b (wpAny_gsz (n := g + 1) hz1 (wpAny_mono hr (fun r2 s2 hr2 hz2 => ?_) fun _ _ z => z.elim))
      obtain ⟨v, H1, J1, rv, hyl, tn1, no1⟩ := hr2
      obtain ⟨ob, hob1, hob2⟩ := objs_at (T.obj _ _ tn1)
      have J2 := pin_on F hob1 no1 J1
      have hpg := (pg_name (pos := px) (X := gx X (gN x fvs) scope C code fp s0 H0) (i := 0) (x := x) hN rfl (.inl S.loc) (.inr S.loc)).run ((a, go) :: ob) s2 _ H1 v u (fun σ' H' => σ' = gσ σ fvs (some v) ∧ H' = H1) J2 rv ⟨rfl, rfl⟩
      refine seg_b (wpAny_gsz (n := g + 1) hz2 (wpAny_mono hpg (fun _ s3 hr3 hz3 => ?_) fun _ _ z => z.elim))
      obtain ⟨σ', H', J3, rfl, rfl⟩ := hr3
      refine seg_b (wpAny_pure ?_)
      rw [if_pos rfl]
      have hyo : ∀ v, yieldOut (gEnv X scope C code) v = yieldValue v := fun v => by
        show (if scope.isCoroutine = true then _ else _) = _
        rw [S.co, if_neg Bool.false_ne_true]
      simp only [hyo]
      rw [Sem.bind_eq_wrap', Sem.bind_eq_wrap', Sem.wrap_wrap, Sem.wrap_wrap]
      refine seg_wrap ?_
      rw [over_gen]
      refine wpAny_gsz (n := g + 1) hz3 (wpAny_mono (hel.run ((a, go) :: ob) s3 _ _ _ J3 (hy v _ hyl)) (fun y s4 hr4 hz4 => ?_) fun _ _ z => z.elim)
      obtain ⟨y', H2, J4, ry, b, rfl, q1, q2⟩ := hr4
      have ey : y = .bool b := ry
      subst ey
      have keep : ∀ c ∈ fp, ∀ o, s2.heap.get? c = some o → s4.heap.get? c = some o := fun c hc o1 e => by
        obtain ⟨o', ho'⟩ := hob2 c hc
        have e2 : s2.heap.get? c = some o' := (hob1 _ ho').2.1
        have e3 : o' = o1 := Option.some.inj (e2.symm.trans e)
        rw [← e3]
        exact (J4.pin (c, o') (List.mem_append_right _ (List.mem_cons_of_mem _ ho'))).1
      have no4 : ∀ c ∈ fp, H2 c = none := fun c hc => by
        obtain ⟨o', ho'⟩ := hob2 c hc
        exact (J4.pin (c, o') (List.mem_append_right _ (List.mem_cons_of_mem _ ho'))).2.1
      have I4 : GI X scope x fvs C a code fp s0 H0 go g σ tn (i + 1) H2 s4 := ⟨⟨_, pin_off J4⟩, T.keep _ _ _ tn1 keep, no4, hz4⟩
      refine seg_at (seg_yield rfl rfl rfl ⟨i, H2, b, hn, rfl, I4, q1, q2, fun s' h1 h2 h3 h4 hb => ?_⟩)
      exact seg_again rfl (ih (i + 1) s' s' H2 (by omega) (I4.same h1 h2 h3 h4) (q1 hb))
    · exact stop (n + 1) i s₀ s H I hs q
end
end DG
namespace DG
open PySem PySem.Spec PyProof.Rows L2 GenW
section
variable {X : Cx} {scope : Scope} {x : Str} {fvs : List (Str × Nat)} {C a : Addr} {code : Value} {fp : List Addr} {s0 : Shared} {H0 : Hp} {go : Obj} {g : Nat} {σ : L2.St} {it : Addr} {tn : Nat → Heap → Prop} {J : It} {te : TE} {W : Nat → Hp → Prop} {Qt Qf : Hp → Prop}
theorem seg_start {elt iter : Expr} {px pos : Pos} {s₀ s : Shared} {H : Hp} (S : GSc X scope x fvs) (hN : (gN x fvs).Nodup) (F : GF X scope C a fp) (hcalm : X.calm = true) (T : Turn X.prog X.w X.K (.Name x px) J fp it tn) (hel : PE (gx X (gN x fvs) scope C code fp s0 H0) elt te) (hw : GW J te σ fvs W Qt Qf)
    (I : GI X scope x fvs C a code fp s0 H0 go g σ tn 0 H s) (w : W 0 H) :
    Seg (model X.prog X.w) X.A.in1.in1 (fun n s₀ r s₁ => r = .ok .next ∧ gP X scope x fvs C a code fp s0 H0 go g σ Qt n s₀ s₁) (gY X scope x fvs C a code fp s0 H0 go g σ tn W Qf) sizeLine s₀
        (.compStart (.GeneratorExp elt [⟨.Name x px, iter, [], 0⟩] scope pos) 0 (.ref it) .none (gEnv X scope C code))
        ((model X.prog X.w).den (.compStart (.GeneratorExp elt [⟨.Name x px, iter, [], 0⟩] scope pos) 0 (.ref it) .none (gEnv X scope C code))) [] s := by
  have lp := seg_turns (iter := iter) (pos := pos) S hN F hcalm T hel hw sizeLine 0 s₀ s H (Nat.add_zero _) I w
  show Seg _ _ _ _ _ s₀ _ ((compStart (.GeneratorExp elt [⟨.Name x px, iter, [], 0⟩] scope pos) 0 (.ref it) .none (gEnv X scope C code)).onRaise (leaving (gEnv X scope C code))) [] s
  rw [Sem.onRaise_eq_wrap]
  unfold compStart
  show Seg _ _ _ _ _ s₀ _ ((ask >>= _).wrap _ _ _ _) [] s
  refine seg_bind_wrap (wpAny_askSetting ?_)
  split
  · exact seg_again rfl lp
  · refine seg_bind_wrap (wpAny_rule ?_)
    show Seg _ _ _ _ _ s₀ _ ((standAt iter.pos >>= _).wrap _ _ _ _) [] s
    exact seg_bind_wrap (wpAny_standAt (seg_bind_wrap (T.self _ 0 s _ _ I.at_ (seg_again rfl lp))))
/-- what all tells at last -/
def gEnd (X : Cx) (scope : Scope) (x : Str) (fvs : List (Str × Nat)) (C a : Addr) (code : Value) (fp : List Addr) (s0 : Shared) (H0 : Hp) (go : Obj) (σ : L2.St) (Q : Bool → Hp → Prop) (r : Result) (s' : Shared) : Prop :=
  ∃ b H o, r = .ok (.ret (.bool b)) ∧ Inv (gx X (gN x fvs) scope C code fp s0 H0) [(a, go)] (gσ σ fvs o) H s' ∧ Q b H
theorem all_turns {k : Nat} (hr : Room (k + 1) X.A) (hgo : go.cls = .type "generator") (hgd : ∃ nm qn, go.data = .fields #[.int g 0, nm, qn] ∧ go.slots = #[]) (Q : Bool → Hp → Prop) (hQt : ∀ H, Qt H → Q true H) (hQf : ∀ H, Qf H → Q false H) :
    ∀ (n : Nat) (s : Shared) (gs : GenState) (H : Hp) (o : Option V), Inv (gx X (gN x fvs) scope C code fp s0 H0) [(a, go)] (gσ σ fvs o) H s → s.gens[g]? = some gs →
      gs.Goes (model X.prog X.w) X.A.in1.in1 (fun n s₀ r s₁ => r = .ok .next ∧ gP X scope x fvs C a code fp s0 H0 go g σ Qt n s₀ s₁) (gY X scope x fvs C a code fp s0 H0 go g σ tn W Qf) n (.send .none) (s.setGen g .running) →
      codeAny (model X.prog X.w) X.A (.builtin "all.loop" ⟨[.ref a], []⟩) (gEnd X scope x fvs C a code fp s0 H0 go σ Q) s := by
  have hd : X.A.handled = none := hr.hd
  have hroom : X.A.depth < recursionLimit := hr.depth
  have turn : ∀ (n : Nat) (s : Shared) (gs : GenState) (H : Hp) (o : Option V), Inv (gx X (gN x fvs) scope C code fp s0 H0) [(a, go)] (gσ σ fvs o) H s → s.gens[g]? = some gs →
      gs.Goes (model X.prog X.w) X.A.in1.in1 (fun n s₀ r s₁ => r = .ok .next ∧ gP X scope x fvs C a code fp s0 H0 go g σ Qt n s₀ s₁) (gY X scope x fvs C a code fp s0 H0 go g σ tn W Qf) n (.send .none) (s.setGen g .running) →
      (∀ m, n = m + 1 → ∀ (s : Shared) (gs : GenState) (H : Hp) (o : Option V), Inv (gx X (gN x fvs) scope C code fp s0 H0) [(a, go)] (gσ σ fvs o) H s → s.gens[g]? = some gs →
        gs.Goes (model X.prog X.w) X.A.in1.in1 (fun n s₀ r s₁ => r = .ok .next ∧ gP X scope x fvs C a code fp s0 H0 go g σ Qt n s₀ s₁) (gY X scope x fvs C a code fp s0 H0 go g σ tn W Qf) m (.send .none) (s.setGen g .running) →
        codeAny (model X.prog X.w) X.A (.builtin "all.loop" ⟨[.ref a], []⟩) (gEnd X scope x fvs C a code fp s0 H0 go σ Q) s) →
      codeAny (model X.prog X.w) X.A (.builtin "all.loop" ⟨[.ref a], []⟩) (gEnd X scope x fvs C a code fp s0 H0 go σ Q) s := by
    intro n s gs H o I hg hgs ih
    obtain ⟨nm, qn, hdata⟩ := hgd
    have hobj := (I.pin (a, go) (List.mem_append_right _ List.mem_cons_self)).1
    have isg : s.heap.IsGen a g := ⟨go, nm, qn, hobj, hgo, hdata⟩
    refine codeAny_builtin F.entry_all_loop ?_
    rw [Around.under_plainId F.plain_all_loop _]
    show wpAny _ X.A.in1 (pyNext (.ref a) >>= _) _ _ s
    refine wpAny_bind (wpAny_pyNext_genexpQ (A := X.A.in1) (P := gP X scope x fvs C a code fp s0 H0 go g σ Qt) hd I.nolimit hroom isg hg hgs (fun v s1 gs' hb hy => ?_) (fun s1 hp h' hk => ?_))
    · obtain ⟨i, H2, b, hn, rfl, I4, q1, q2, kap⟩ := hy
      have I5 : GI X scope x fvs C a code fp s0 H0 go g σ tn (i + 1) H2 (s1.setGen g gs') := I4.same rfl rfl (allBare_setGen (let ⟨_, z⟩ := I4.inv; z.bare) hb) (setGen_size ..)
      obtain ⟨o2, J⟩ := I5.inv
      refine wpAny_bind (wpAny_holding (wpAny_truthy_bool (wpAny_bind (wpAny_letGo ?_))))
      cases b with
      | true =>
        rw [if_pos rfl]
        cases n with
        | zero => exact absurd (kap s1 rfl rfl (let ⟨_, z⟩ := I4.inv; z.bare) rfl rfl) id
        | succ m =>
          refine wpAny_pure ⟨plainId_quiet F.plain_all_loop _, ih m rfl _ gs' H2 o2 J (setGen_at (by rw [show (s1.gens.size) = s1.gens.size from rfl]; exact I4.sz)) ?_⟩
          exact kap _ rfl rfl (allBare_setGen (x := .running) J.bare rfl) ((setGen_size ..).trans (setGen_size ..)) rfl
      | false =>
        rw [if_neg Bool.false_ne_true]
        exact wpAny_bind (wpAny_rule (wpAny_pure ⟨false, H2, o2, rfl, J, hQf _ (q2 rfl)⟩))
    · obtain ⟨H2, o2, J, hz, q⟩ := hp
      have J1 : Inv (gx X (gN x fvs) scope C code fp s0 H0) [(a, go)] (gσ σ fvs o2) H2 { s1.setGen g .finished with heap := h' } := inv_same (J.kept (t' := s1.toks) hk) rfl rfl (allBare_setGen (x := .finished) J.bare rfl)
      exact wpAny_bind (wpAny_rule (wpAny_pure ⟨true, H2, o2, rfl, J1, hQt _ q⟩))
  intro n
  induction n with
  | zero =>
    intro s gs H o I hg hgs
    exact turn 0 s gs H o I hg hgs fun m e => nomatch e
  | succ n ih =>
    intro s gs H o I hg hgs
    exact turn (n + 1) s gs H o I hg hgs fun m e => by
      cases e
      exact ih
end
end DG
namespace DG
open PySem PySem.Spec PyProof.Rows L2 GenW
/-- all(elt for x in iter): what is walked, then at each turn the element -/
def tAllG (P : Addr) (ti : TI) (te : TE) (fvs : List (Str × Nat)) : TE := fun σ H Q => ti σ H fun J H1 => GxR.TabG H1 P ∧ ∀ H2, GxR.Tabbed P H1 H2 → ∃ W : Nat → Hp → Prop, W 0 H2 ∧ GW J te σ fvs W (Q (.bl true)) (Q (.bl false))
section
variable {X : Cx} {scope : Scope} {x : Str} {fvs : List (Str × Nat)} {te : TE} {ti : TI} {c P : Addr} {k : Nat}
theorem gen_back {pins pg : List (Addr × Obj)} {σ τ : L2.St} {H H' : Hp} {s s' : Shared} {N : List Str} {C : Addr} {code : Value} {fp : List Addr} (I : Inv X pins σ H s) (hfp : ∀ b ∈ fp, FpOk X pins H b) (J : Inv (gx X N scope C code fp s H) pg τ H' s') : Inv X pins σ H' s' := by
  have K := I.call (h' := s'.heap) (g' := s'.gens) (t' := s'.toks) (d' := s'.drawn) (ch := fp) J.base J.hok J.bare fun b hb => ⟨(hfp b hb).2.2.2.1, (hfp b hb).2.1, (hfp b hb).2.2.2.2.1, (hfp b hb).2.2.2.2.2⟩
  rw [GxR.sh_eta s s' J.os] at K
  exact K
/-- the generator is made, all walks it -/
theorem walk_made {pins : List (Addr × Obj)} {σ : L2.St} {H : Hp} {s : Shared} {J : It} {W : Nat → Hp → Prop} {it : Addr} {tn : Nat → Heap → Prop} {fp : List Addr} {elt iter : Expr} {px gpos : Pos} {code : Value} {h' : Heap} {T : Nat} {qn : Str} {Q : VK} {fo : Obj}
    (hr : Room (k + 1) X.A) (hcalm : X.calm = true) (S : GSc X scope x fvs) (hN : (gN x fvs).Nodup) (hel : ∀ C code fp s H, PE (gx X (gN x fvs) scope C code fp s H) elt te) (I : Inv X pins σ H s) (Tn : Turn X.prog X.w X.K (.Name x px) J fp it tn) (h0 : tn 0 s.heap) (hfp : ∀ b ∈ fp, FpOk X pins H b)
    (w0 : W 0 H) (hw : GW J te σ fvs W (Q (.bl true)) (Q (.bl false))) (hn : h'.Ns s.heap.objs.size (fun y => if y = ".0" then some (.ref it) else none)) (hsb : Heap.SameBut s.heap.objs.size (s.heap.push fo) h') :
    wpAny (model X.prog X.w) X.A (call (.builtin "all") [.ref h'.objs.size]) (EP X pins σ Q) X.xe
      { s with
        gens := s.gens.push (.fresh (.compStart (.GeneratorExp elt [⟨.Name x px, iter, [], 0⟩] scope gpos) 0 (.ref it) .none (gEnv X scope s.heap.objs.size code)))
        toks := T
        heap := h'.push { cls := .type "generator", data := .fields #[.int s.gens.size 0, .str "<genexpr>" (s.toks + 1), .str qn (s.toks + 1 + 1)] } } := by
  generalize hgo : ({ cls := .type "generator", data := .fields #[.int s.gens.size 0, .str "<genexpr>" (s.toks + 1), .str qn (s.toks + 1 + 1)] } : Obj) = go
  have hsz : h'.objs.size = s.heap.objs.size + 1 := by
    rw [hsb.1, Heap.size_push]
  have lt : ∀ b ∈ fp, b < s.heap.objs.size := fun b hb => by
    obtain ⟨o, ho, _⟩ := Tn.obj _ _ h0 b hb
    exact Heap.lt_size ho
  have hG : AllBare (s.gens.push (.fresh (.compStart (.GeneratorExp elt [⟨.Name x px, iter, [], 0⟩] scope gpos) 0 (.ref it) .none (gEnv X scope s.heap.objs.size code)))) := I.bare.push rfl
  have J0 := gen_start (code := code) (G := s.gens.push (.fresh (.compStart (.GeneratorExp elt [⟨.Name x px, iter, [], 0⟩] scope gpos) 0 (.ref it) .none (gEnv X scope s.heap.objs.size code)))) (T := T) (go := go) I hr S (fun b hb => ⟨hfp b hb, lt b hb⟩) hn hsb hG (by rw [← hgo]; exact fun v z => nomatch z) (by rw [← hgo]; rfl)
  have FF : GF X scope s.heap.objs.size h'.objs.size fp := ⟨fun b hb => Nat.ne_of_lt (lt b hb), fun b hb z => by
      rcases List.mem_cons.mp (I.stkSub b z) with e | e
      · exact (hfp b hb).2.1 e
      · exact (hfp b hb).2.2.1 e, fun b hb y c e => (hfp b hb).2.2.2.2.1 y c (clo_in I S (PySem.mem_of_lookup e)), fun b hb => by
      refine Nat.ne_of_lt ?_
      rw [hsz]
      exact Nat.lt_succ_of_lt (lt b hb)⟩
  have kp : ∀ b o, s.heap.get? b = some o → (h'.push go).get? b = some o := fun b o e => Heap.get?_push_of_some _ ((hsb.2 b (Nat.ne_of_lt (Heap.lt_size e))).trans (Heap.get?_push_of_some _ e))
  have I0 : GI X scope x fvs s.heap.objs.size h'.objs.size code fp s H go s.gens.size σ tn 0 H { s with gens := s.gens.push (.fresh (.compStart (.GeneratorExp elt [⟨.Name x px, iter, [], 0⟩] scope gpos) 0 (.ref it) .none (gEnv X scope s.heap.objs.size code))), toks := T, heap := h'.push go } :=
    ⟨⟨none, J0⟩, Tn.keep _ _ _ h0 fun b _ o e => kp b o e, fun b hb => (hfp b hb).1, by simp⟩
  have isg : (h'.push go).IsGen h'.objs.size s.gens.size := ⟨go, _, _, Heap.get?_push_size _ (by rw [← hgo]; rfl), by rw [← hgo], by rw [← hgo], by rw [← hgo]⟩
  refine call_function_tree F.kind_all F.plain_all F.entry_all (F.args_all1 _) ?_
  unfold Builtin.«all»
  refine wpAny_bind (m := oneArg "all" _) (wpAny_pure (wpAny_bind (wpAny_pyIter_gen isg ?_)))
  refine wpAny_pure ⟨plainId_quiet F.plain_all_loop _, codeAny_mono (all_turns (k := k) (tn := tn) (W := W) (Qt := Q (.bl true)) (Qf := Q (.bl false)) hr (by rw [← hgo]) (by rw [← hgo]; exact ⟨_, _, rfl, rfl⟩) (fun b H => Q (.bl b) H) (fun _ q => q) (fun _ q => q) sizeLine _ _ H none J0 (Array.getElem?_push_size ..) ?_) fun r s' hq => ?_⟩
  · exact ⟨rfl, seg_start S hN FF hcalm Tn (hel _ _ _ _ _) hw (I0.same rfl rfl (allBare_setGen (x := .running) hG rfl) (setGen_size ..)) w0⟩
  · obtain ⟨b, H2, o2, rfl, J, q⟩ := hq
    exact ⟨.bl b, H2, gen_back I hfp J, rfl, q⟩
theorem pe_all {elt iter : Expr} {px p gpos pos : Pos} (hr : Room (k + 1) X.A) (hcalm : X.calm = true) (hg : Gl X "all") (hm : X.mg "all" = none) (hb : bootBuiltins "all" = some (.builtin "all")) (TB : GxR.TabB X.base X.mg c P) (hcode : X.env.code = .ref c) (S : GSc X scope x fvs) (hN : (gN x fvs).Nodup)
    (hi : PI X (.Name x px) iter ti) (hel : ∀ C code fp s H, PE (gx X (gN x fvs) scope C code fp s H) elt te) (hs : ∀ v, genFold iter X.env v = pure v)
    (he : starEach [.GeneratorExp elt [⟨.Name x px, iter, [], 0⟩] scope gpos] X.env = (false, eval (.GeneratorExp elt [⟨.Name x px, iter, [], 0⟩] scope gpos) X.env) :: starEach [] X.env := by rfl) :
    PE X (.Call (.Name "all" p) [.GeneratorExp elt [⟨.Name x px, iter, [], 0⟩] scope gpos] [] pos) (tAllG P ti te fvs) := by
  refine ⟨fun pins s σ H Q I h => wpAny_Call_Name_kw (ld_blt I hg hm hb (PyProof.Rows.callWith_builtin1 ?_ he (by rfl)))⟩
  rw [he]
  refine Calls.spliced_cons (wpAny_GeneratorExp_make S.co (closure_ok (hasCell I S)) S.cell S.dot S.kind hr.depth (wpAny_mono (hi.run pins s σ H _ I h) (fun xv s1 h1 => wpAny_mono h1 (fun itv s2 h2 => ?_) fun _ _ q => q) fun _ _ q => q) hs)
  obtain ⟨it, fp, tn, J, H1, rfl, I2, Tn, h0, hfp, ⟨ps, hP, ht⟩, q⟩ := h2
  refine ⟨I2.nolimit, ?_⟩
  have hPs : s2.heap.get? P = some { cls := .none, data := .fields ps } := I2.hok P _ hP
  -- behind the code object
  have cont : ∀ (cv : Value) (s3 : Shared) (H2 : Hp), GxR.Tabbed P H1 H2 → Inv X pins σ H2 s3 → tn 0 s3.heap → (∀ b ∈ fp, FpOk X pins H2 b) →
      wpAny (model X.prog X.w) X.A (builtinsFor X.env.globals X.env.builtins) (fun bi s₄ => ∀ h', h'.Ns s₄.heap.objs.size (fun y => if y = ".0" then some (.ref it) else none) → Heap.SameBut s₄.heap.objs.size (s₄.heap.push { cls := .type "frame", data := .dict #[] }) h' →
        wpAny (model X.prog X.w) X.A (spliced (backTo pos (starEach [] X.env))) (fun vs s₂ => wpAny (model X.prog X.w) X.A (call (.builtin "all") (.ref h'.objs.size :: vs)) (EP X pins σ Q) X.xe s₂) X.xe
          { s₄ with
            gens := s₄.gens.push (.fresh (.compStart (.GeneratorExp elt [⟨.Name x px, iter, [], 0⟩] scope gpos) 0 (.ref it) .none (genEnv scope (cloFrom X.env.cells scope.names []) s₄.heap.objs.size cv bi X.env)))
            toks := s₄.toks + 1 + 1 + 1
            heap := h'.push { cls := .type "generator", data := .fields #[.int s₄.gens.size 0, .str "<genexpr>" (s₄.toks + 1), .str (X.env.qual ++ "<genexpr>") (s₄.toks + 1 + 1)] } }) X.xe s3 := by
    intro cv s3 H2 hT I3 h03 hfp3
    obtain ⟨W, w0, hw⟩ := q H2 hT
    obtain ⟨bm, ob, e1, e2, e3, e4, e5, e6, e7, e8⟩ := TB.bm
    refine wpAny_builtinsFor (m := X.mg) (by rw [I3.ok.glob]; exact I3.mod.glob.keeps I3.bk) e1 e2 (I3.bk _ _ e5) e6 e7 e8 fun h' hn hsb => ?_
    exact Calls.spliced_nil (walk_made hr hcalm S hN hel I3 Tn h03 hfp3 w0 hw hn hsb)
  have cd : PySem.W.CodeHd s2.heap c P := TB.code.keeps I2.bk
  have neP : ∀ b ∈ fp, b ≠ P := fun b hb z => by
    have := (hfp b hb).1
    rw [z, hP] at this
    cases this
  cases hf : codeAmong gpos ps.toList with
  | some cv => exact wpAny_genexprCode_hit hcode (cd.code hPs ht) hf (cont cv s2 H1 ⟨⟨ps, hP, ht⟩, fun _ _ => rfl⟩ I2 h0 hfp)
  | none =>
    refine wpAny_genexprCodeX hcode (cd.code hPs ht) (cd.tab hPs) hf fun c' h3 tk hx hge hlt hco' _ htab' _ => ?_
    obtain ⟨o1, vs, f1, tf, fl, tg, inF, tx, tt, op, _, _, _, _, _, _, _, _, _, htr, _⟩ := hco'
    refine cont (.ref c') _ _ ⟨⟨_, upd_same, htr⟩, fun b hb => upd_ne hb⟩ (GxR.inv_tab (d' := s2.drawn) (g' := s2.gens) (t' := tk) I2 hP (fun b o hb e => hx b o hb e) htab'.2 I2.bare) (Tn.keep _ _ _ h0 fun b hb o e => hx b o (neP b hb) e) fun b hb => ?_
    obtain ⟨f1, f2⟩ := hfp b hb
    exact ⟨by rw [upd_ne (neP b hb)]; exact f1, f2⟩
end
end DG
namespace DL
open PySem PySem.Spec PyProof.Rows L2 DG
variable [Tabs]
/-! ### all(elt for x in iter) -/
def gE (e : Ed) (fvs : List (Str × Nat)) (d : D) : Ed := some d :: fvs.map fun p => (e[p.2]?).getD none
def dAllG (ti : TId) (fvs : List (Str × Nat)) (te : TEd) : TEd := fun e st Q => ti e st fun it st1 => it.xs.length < sizeLine ∧ ∃ W : Nat → Sto → Prop, W 0 st1 ∧ ∀ i st2, W i st2 → it.at st2 ∧ (it.xs.length ≤ i → Q (.d (.bool true)) st2) ∧
  ∀ d, it.xs[i]? = some d → te (gE e fvs d) st2 (asB fun b st3 => if b = true then W (i + 1) st3 else Q (.d (.bool false)) st3)
theorem re_gen {K : PySem.W.Frag} {st : Sto} {H : Hp} {σ : L2.St} {e : Ed} (re : RE K st H σ e) {v : V} {d : D} (r : DvD K st H v d) (fvs : List (Str × Nat)) : RE K st H (gσ σ fvs (some v)) (gE e fvs d) := by
  refine ⟨by simp [gσ, gE], fun i x h => ?_⟩
  cases i with
  | zero =>
    have h' : d = x := Option.some.inj (Option.some.inj h)
    subst h'
    exact ⟨v, rfl, r⟩
  | succ i =>
    unfold gE at h
    rw [List.getElem?_cons_succ, List.getElem?_map] at h
    unfold gσ
    rw [List.getElem?_cons_succ, List.getElem?_map]
    cases q : fvs[i]? with
    | none =>
      rw [q] at h
      cases h
    | some p =>
      rw [q] at h
      have h' : (e[p.2]?).getD none = some x := Option.some.inj h
      have h2 : e[p.2]? = some (some x) := by
        cases z : e[p.2]? with
        | none =>
          rw [z] at h'
          cases h'
        | some w =>
          rw [z] at h'
          have h3 : w = some x := h'
          rw [h3]
      obtain ⟨u, hu, ru⟩ := re.at_ p.2 x h2
      exact ⟨u, by rw [Option.map_some, hu]; rfl, ru⟩
theorem fr_tab {K : PySem.W.Frag} {st hid : Sto} {H H' : Hp} {P : Addr} (S : Sx K st hid H) (t : GxR.TabG H P) (T : GxR.Tabbed P H H') : FrX st hid H st H' ∧ Sx K st hid H' := by
  have F : FrX st hid H st H' := by
    refine ⟨fun b o e f n => ⟨?_, f⟩, fun Q q f => ⟨?_, f⟩⟩
    · have ne : b ≠ P := fun z => by
        obtain ⟨ps, e2, _⟩ := t
        rw [z, e2] at e
        exact n ps (Option.some.inj e).symm
      rw [T.2 b ne]
      exact e
    · by_cases z : Q = P
      · rw [z]
        exact T.1
      · obtain ⟨ps, e, q2⟩ := q
        exact ⟨ps, by rw [T.2 Q z]; exact e, q2⟩
  refine ⟨F, S.go F fun a ds e => ?_⟩
  obtain ⟨xs, h, r⟩ := S.sr a ds e
  refine ⟨xs, ?_, r.mono F S.sr⟩
  have ne : a ≠ P := fun z => by
    obtain ⟨ps, e2, _⟩ := t
    rw [z, e2] at h
    cases h
  rw [T.2 a ne]
  exact h
section
variable {X : Cx} {scope : Scope} {x : Str} {fvs : List (Str × Nat)} {te : TEd} {ti : TId} {c P : Addr} {k : Nat}
theorem pd_all {elt iter : Expr} {px p gpos pos : Pos} (hr : Room (k + 1) X.A) (hcalm : X.calm = true) (hg : Gl X "all") (hm : X.mg "all" = none) (hP : P ∈ (Tabs.tp : List Addr)) (TB : GxR.TabB X.base X.mg c P) (hcode : X.env.code = .ref c) (S : GSc X scope x fvs) (hN : (gN x fvs).Nodup)
    (hi : PDI X (.Name x px) iter ti) (hel : ∀ C code fp s H, PD (gx X (gN x fvs) scope C code fp s H) elt te) (hs : ∀ v, genFold iter X.env v = pure v := by intro _; rfl)
    (hb : bootBuiltins "all" = some (.builtin "all") := by decide +kernel)
    (he : starEach [.GeneratorExp elt [⟨.Name x px, iter, [], 0⟩] scope gpos] X.env = (false, eval (.GeneratorExp elt [⟨.Name x px, iter, [], 0⟩] scope gpos) X.env) :: starEach [] X.env := by rfl) :
    PD X (.Call (.Name "all" p) [.GeneratorExp elt [⟨.Name x px, iter, [], 0⟩] scope gpos] [] pos) (dAllG ti fvs te) :=
  PE.imp (pe_all (ti := upI X.K ti) (te := up X.K te) (p := p) (pos := pos) (px := px) (gpos := gpos) hr hcalm hg hm hb TB hcode S hN hi hel hs he) fun σ H Q ⟨e, st, hid, Qd, re, S0, h, kk⟩ => by
    refine ⟨e, st, hid, _, re, S0, h, fun J H1 it st1 F1 S1 ok1 at1 ⟨hl, W, w0, turn⟩ => ⟨S1.tb P hP, fun H2 T2 => ?_⟩⟩
    obtain ⟨F12, S2⟩ := fr_tab S1 (S1.tb P hP) T2
    refine ⟨fun i H' => ∃ st', W i st' ∧ FrX st1 hid H1 st' H' ∧ Sx X.K st' hid H', ⟨st1, w0, F12, S2⟩, ⟨fun i H3 ⟨st3, w3, F3, S3⟩ => ?_⟩⟩
    obtain ⟨at3, done, go⟩ := turn i st3 w3
    have It := ok1 i _ H3 F3 S3.sr fun a ds z => jn_some (at3 a ds z)
    by_cases hj : it.xs.length ≤ i
    · exact .inr ⟨It.2 hj, kk _ H3 _ st3 (Fr.trans F1 F3) S3 (.d (.bl true)) (done hj)⟩
    · have hlt : i < it.xs.length := Nat.lt_of_not_le hj
      have ed : it.xs[i]? = some it.xs[i] := List.getElem?_eq_getElem hlt
      obtain ⟨g1, g2⟩ := It.1 _ ed
      refine .inl ⟨g1, Nat.lt_trans hlt hl, fun v H4 hy => ?_⟩
      obtain ⟨F34, S4r, rv⟩ := g2 v H4 hy
      have S4 : Sx X.K st3 hid H4 := S3.go F34 S4r
      have re4 := (re.mono (Fr.trans F1 F3) S0.sr).mono F34 S3.sr
      refine ⟨gE e fvs it.xs[i], st3, hid, _, re_gen re4 rv fvs, S4, go _ ed, tst_go fun b H5 st5 F5 S5 q5 => ?_⟩
      have F15 : FrX st1 hid H1 st5 H5 := Fr.trans F3 (Fr.trans F34 F5)
      cases b with
      | true =>
        rw [if_pos rfl] at q5
        exact ⟨fun _ => ⟨st5, q5, F15, S5⟩, fun z => nomatch z⟩
      | false =>
        rw [if_neg Bool.false_ne_true] at q5
        exact ⟨(fun z => nomatch z), fun _ => kk _ H5 _ st5 (Fr.trans F1 F15) S5 (.d (.bl false)) q5⟩
end
end DL
namespace DZ
open PySem PySem.Spec PyProof.Rows L2
open Sem (wp)
/-! ### 'next' of a zip over two iterators of any kind, while the pair handed out before is still there -/
section
variable {prog : Program} {w : World} {A : Around} {E : Value → Shared → Prop} {s : Shared} {z TI TO i1 i2 T : Addr} {f : Bool} {oT : Obj} {fp1 fp2 : List Addr} {n1 n2 i : Nat} {P1 P2 : Nat → Value → Prop} {St1 St2 : Nat → Heap → Prop}
theorem zipH_item {Q : Value → Shared → Prop} (S : ZipSep2 z TI TO i1 i2 fp1 fp2) (D1 : Draws prog w A i1 fp1 n1 P1 St1) (D2 : Draws prog w A i2 fp2 n2 P2 St2)
    (hz : IsZipHeld s.heap z TI TO T f) (hT : s.heap.get? T = some oT) (hTI : IsTupOf2 s.heap TI (.ref i1) (.ref i2)) (st1 : St1 i s.heap) (st2 : St2 i s.heap) (hlt1 : i < n1) (hlt2 : i < n2)
    (hQ : ∀ x1 x2 h' tk, P1 i x1 → P2 i x2 → IsZipHeld h' z TI TO T true → St1 (i + 1) h' → St2 (i + 1) h' → IsTupOf2 h' s.heap.objs.size x1 x2 → h'.objs.size = s.heap.objs.size + 1 →
      (∀ c o, c ≠ z → c ≠ i1 → c ≠ i2 → s.heap.get? c = some o → h'.get? c = some o) → Q (.ref s.heap.objs.size) { s with heap := h', toks := tk }) :
    wpAny (model prog w) A (Builtin.«zip.__next__» ⟨[.ref z], []⟩) (fun fin s' => ∃ v, fin = .done (.ret v) ∧ Q v s') E s := by
  obtain ⟨hp, g, d, tk0, os⟩ := s
  show wpAny _ _ (field (.ref z) 2 >>= _) _ _ _
  refine wpAny_bind (wpAny_field hz rfl (x := .bool false) rfl ?_)
  show wpAny _ _ (field (.ref z) 3 >>= _) _ _ _
  refine wpAny_bind (wpAny_field hz rfl (x := .ref TI) rfl ?_)
  refine wpAny_bind (wpAny_seqItems hTI rfl ?_)
  show wpAny _ _ (Builtin.SmallTypes.ownedTupleIsFree (.ref z) >>= _) _ _ _
  refine wpAny_bind (wpAny_tupleHeld_zip hz hT fun h1 hz1 hs1 => ?_)
  replace hs1 : Heap.SameBut z hp h1 := hs1
  simp only [Bool.false_eq_true, if_false]
  refine wpAny_bind ?_
  rw [← Array.forIn_toList]
  simp only [List.forIn_cons, List.forIn_nil]
  refine wpAny_bind (wpAny_bind (wpAny_holding ?_))
  show wpAny _ _ (Builtin.SmallTypes.nextOf (.ref i1) >>= _) _ _ ⟨h1, g, d, tk0, os⟩
  refine wpAny_bind (D1.item i _ _ _ hlt1 (D1.over st1 hs1 S.zf1) fun x1 p1 tk1 hx1 sn1 hp1 => wpAny_pure ?_)
  replace hp1 : Heap.SameBut i1 h1 p1 := hp1
  refine wpAny_pure ?_
  refine wpAny_bind (wpAny_bind (wpAny_holding ?_))
  show wpAny _ _ (Builtin.SmallTypes.nextOf (.ref i2) >>= _) _ _ ⟨p1, g, d, tk1, os⟩
  refine wpAny_bind (D2.item i _ _ _ hlt2 (D2.over (D2.over st2 hs1 S.zf2) hp1 S.sep1_2) fun x2 p2 tk2 hx2 sn2 hp2 => wpAny_pure ?_)
  replace hp2 : Heap.SameBut i2 p1 p2 := hp2
  refine wpAny_pure (wpAny_pure ?_)
  show wpAny _ _ (newTuple [x1, x2] >>= _) _ _ ⟨p2, g, d, tk2, os⟩
  refine wpAny_bind (wpAny_newTuple ?_)
  have hsz : p2.objs.size = hp.objs.size := by rw [hp2.1, hp1.1, hs1.1]
  have hzz : IsZipHeld p2 z TI TO T true := hp2.extBut _ _ S.zi2 (hp1.extBut _ _ S.zi1 hz1)
  have hk : ∀ c o, c ≠ z → c ≠ i1 → c ≠ i2 → hp.get? c = some o → p2.get? c = some o := fun c o c1 c2 c3 e => hp2.extBut _ _ c3 (hp1.extBut _ _ c2 (hs1.extBut _ _ c1 e))
  have up : ∀ c o, p2.get? c = some o → (p2.push { cls := .type "tuple", data := .seq #[x1, x2] }).get? c = some o := fun c o e => Heap.get?_push_of_some _ e
  have hT2 : IsTupOf2 (p2.push { cls := .type "tuple", data := .seq #[x1, x2] }) p2.objs.size x1 x2 := Heap.get?_push_size _ rfl
  have hz2 : (p2.push { cls := .type "tuple", data := .seq #[x1, x2] }).objs.size = p2.objs.size + 1 := Heap.size_push ..
  refine wpAny_pure ⟨_, rfl, ?_⟩
  show Q (.ref p2.objs.size) ⟨p2.push { cls := .type "tuple", data := .seq #[x1, x2] }, g, d, tk2, os⟩
  rw [hsz] at hT2 hz2 ⊢
  exact hQ x1 x2 _ tk2 hx1 hx2 (up _ _ hzz) (D1.frame _ _ _ (D1.over sn1 hp2 S.sep2_1) fun b _ o e => up b o e) (D2.frame _ _ _ sn2 fun b _ o e => up b o e) hT2 hz2 fun c o c1 c2 c3 e => up c o (hk c o c1 c2 c3 e)
theorem zipH_end {Q : Fin → Shared → Prop} (S : ZipSep2 z TI TO i1 i2 fp1 fp2) (D1 : Draws prog w A i1 fp1 n1 P1 St1) (D2 : Draws prog w A i2 fp2 n2 P2 St2)
    (hz : IsZipHeld s.heap z TI TO T f) (hT : s.heap.get? T = some oT) (hTI : IsTupOf2 s.heap TI (.ref i1) (.ref i2)) (st1 : St1 i s.heap) (st2 : St2 i s.heap) (hle1 : i ≤ n1) (hend : i = n1 ∨ i = n2)
    (hE : ∀ h' tk e, (∀ c o, c ≠ z → c ≠ i1 → c ≠ i2 → s.heap.get? c = some o → h'.get? c = some o) → (∃ o, h'.get? e = some o ∧ o.cls = .type "StopIteration") → E (.ref e) { s with heap := h', toks := tk }) :
    wpAny (model prog w) A (Builtin.«zip.__next__» ⟨[.ref z], []⟩) Q E s := by
  obtain ⟨hp, g, d, tk0, os⟩ := s
  show wpAny _ _ (field (.ref z) 2 >>= _) _ _ _
  refine wpAny_bind (wpAny_field hz rfl (x := .bool false) rfl ?_)
  show wpAny _ _ (field (.ref z) 3 >>= _) _ _ _
  refine wpAny_bind (wpAny_field hz rfl (x := .ref TI) rfl ?_)
  refine wpAny_bind (wpAny_seqItems hTI rfl ?_)
  show wpAny _ _ (Builtin.SmallTypes.ownedTupleIsFree (.ref z) >>= _) _ _ _
  refine wpAny_bind (wpAny_tupleHeld_zip hz hT fun h1 hz1 hs1 => ?_)
  replace hs1 : Heap.SameBut z hp h1 := hs1
  simp only [Bool.false_eq_true, if_false]
  refine wpAny_bind ?_
  rw [← Array.forIn_toList]
  simp only [List.forIn_cons, List.forIn_nil]
  refine wpAny_bind (wpAny_bind (wpAny_holding ?_))
  show wpAny _ _ (Builtin.SmallTypes.nextOf (.ref i1) >>= _) _ _ ⟨h1, g, d, tk0, os⟩
  by_cases hlt1 : i < n1
  · refine wpAny_bind (D1.item i _ _ _ hlt1 (D1.over st1 hs1 S.zf1) fun x1 p1 tk1 hx1 sn1 hp1 => wpAny_pure ?_)
    replace hp1 : Heap.SameBut i1 h1 p1 := hp1
    refine wpAny_pure ?_
    refine wpAny_bind (wpAny_bind (wpAny_holding ?_))
    show wpAny _ _ (Builtin.SmallTypes.nextOf (.ref i2) >>= _) _ _ ⟨p1, g, d, tk1, os⟩
    have hi2 : i = n2 := by omega
    refine wpAny_bind (D2.done ⟨p1, g, d, tk1, os⟩ _ _ (by rw [← hi2]; exact D2.over (D2.over st2 hs1 S.zf2) hp1 S.sep1_2) fun q e hq he => ?_)
    replace hq : Heap.ExtBut i2 p1 q := hq
    exact hE q tk1 e (fun c o c1 c2 c3 x => hq _ _ c3 (hp1.extBut _ _ c2 (hs1.extBut _ _ c1 x))) he
  · have hi1 : i = n1 := by omega
    refine wpAny_bind (D1.done ⟨h1, g, d, tk0, os⟩ _ _ (by rw [← hi1]; exact D1.over st1 hs1 S.zf1) fun q e hq he => ?_)
    replace hq : Heap.ExtBut i1 h1 q := hq
    exact hE q tk0 e (fun c o c1 c2 c3 x => hq _ _ c2 (hs1.extBut _ _ c1 x)) he
end
section
variable {prog : Program} {w : World} {A : Around} {E : Value → Shared → Prop} {s : Shared} {z TI TO i1 i2 T : Addr} {f : Bool} {oT : Obj} {fp1 fp2 : List Addr} {n1 n2 i : Nat} {P1 P2 : Nat → Value → Prop} {St1 St2 : Nat → Heap → Prop}
theorem next_zipH_item {Q : Option Value → Shared → Prop} (S : ZipSep2 z TI TO i1 i2 fp1 fp2) (D1 : Draws prog w A.in1 i1 fp1 n1 P1 St1) (D2 : Draws prog w A.in1 i2 fp2 n2 P2 St2)
    (hz : IsZipHeld s.heap z TI TO T f) (hT : s.heap.get? T = some oT) (hTI : IsTupOf2 s.heap TI (.ref i1) (.ref i2)) (st1 : St1 i s.heap) (st2 : St2 i s.heap) (hlt1 : i < n1) (hlt2 : i < n2)
    (hQ : ∀ x1 x2 h' tk, P1 i x1 → P2 i x2 → IsZipHeld h' z TI TO T true → St1 (i + 1) h' → St2 (i + 1) h' → IsTupOf2 h' s.heap.objs.size x1 x2 → h'.objs.size = s.heap.objs.size + 1 →
      (∀ c o, c ≠ z → c ≠ i1 → c ≠ i2 → s.heap.get? c = some o → h'.get? c = some o) → Q (some (.ref s.heap.objs.size)) { s with heap := h', toks := tk }) :
    wpAny (model prog w) A (pyNext (.ref z)) Q E s := by
  have hTy : s.TypeIs (.ref z) "zip" := ⟨_, hz, rfl⟩
  unfold pyNext
  exact wpAny_bind (wpAny_attempt (wpAny_callSpecial?_slot (name := Str.ofString "__next__") hTy F.slot_zip_next
    (wpAny_call_entry F.slot_zip_next hTy F.entry_zip_next
      (zipH_item S D1 D2 hz hT hTI st1 st2 hlt1 hlt2 fun x1 x2 h' tk a1 a2 a3 a4 a5 a6 a7 a8 => wpAny_pure (hQ x1 x2 h' tk a1 a2 a3 a4 a5 a6 a7 a8)) (F.args_zip_next_1 _))))
theorem next_zipH_end {Q : Option Value → Shared → Prop} (S : ZipSep2 z TI TO i1 i2 fp1 fp2) (D1 : Draws prog w A.in1 i1 fp1 n1 P1 St1) (D2 : Draws prog w A.in1 i2 fp2 n2 P2 St2)
    (hz : IsZipHeld s.heap z TI TO T f) (hT : s.heap.get? T = some oT) (hTI : IsTupOf2 s.heap TI (.ref i1) (.ref i2)) (st1 : St1 i s.heap) (st2 : St2 i s.heap) (hle1 : i ≤ n1) (hend : i = n1 ∨ i = n2)
    (hQ : ∀ h' tk, (∀ c o, c ≠ z → c ≠ i1 → c ≠ i2 → s.heap.get? c = some o → h'.get? c = some o) → Q none { s with heap := h', toks := tk }) : wpAny (model prog w) A (pyNext (.ref z)) Q E s := by
  have hTy : s.TypeIs (.ref z) "zip" := ⟨_, hz, rfl⟩
  unfold pyNext
  refine wpAny_bind (wpAny_attempt (wpAny_callSpecial?_slot (name := Str.ofString "__next__") hTy F.slot_zip_next
    (wpAny_call_entry F.slot_zip_next hTy F.entry_zip_next (zipH_end S D1 D2 hz hT hTI st1 st2 hle1 hend fun h' tk e hk he => ?_) (F.args_zip_next_1 _))))
  obtain ⟨o, ho, hc⟩ := he
  refine wpAny_bind (wpAny_isInstance (T := "StopIteration") (b := true) ⟨o, ho, hc⟩ isSubtype_stop ?_)
  exact wpAny_pure (hQ _ _ hk)
end
end DZ
namespace DZ
open PySem PySem.Spec PyProof.Rows L2
open Sem (wp)
/-- pairs told, each at a new place -/
inductive Tells : Hp → List (V × V) → List Addr → Hp → Prop
  | nil {H} : Tells H [] [] H
  | snoc {H H1 ps as p T} : Tells H ps as H1 → H1 T = none → Tells H (ps ++ [p]) (as ++ [T]) (upd H1 T (.tup [p.1, p.2]))
theorem Tells.len {H H1 : Hp} {ps : List (V × V)} {as : List Addr} (t : Tells H ps as H1) : as.length = ps.length := by
  induction t with
  | nil => rfl
  | snoc _ _ ih => rw [List.length_append, List.length_append, ih]; rfl
theorem take_snoc {α : Type} {xs : List α} {i : Nat} {x : α} (h : xs[i]? = some x) : xs.take (i + 1) = xs.take i ++ [x] := by
  rw [List.take_add_one, h]
  rfl
structure ZS (h : Heap) (z TI TO i1 i2 a b S : Addr) (xs ys : Array Value) (i : Nat) : Prop where
  tI : IsTupOf2 h TI (.ref i1) (.ref i2)
  h1 : h.IsTupleIter i1 a i ∧ h.IsTuple a xs
  h2 : h.IsTupleIter i2 b i ∧ h.IsTuple b ys
  st : (IsZip h z TI TO .none ∧ ∃ u v, IsTupOf2 h TO u v) ∨ ∃ T f oT, IsZipHeld h z TI TO T f ∧ h.get? T = some oT ∧ T ∉ [z, TO, i1, i2, S]
theorem ZS.at {h h' : Heap} {z TI TO i1 i2 a b S : Addr} {xs ys : Array Value} {i : Nat} (x : ZS h z TI TO i1 i2 a b S xs ys i) (hS : S ∉ [z, TI, TO, i1, i2, a, b]) (k : ∀ c o, c ≠ S → h.get? c = some o → h'.get? c = some o) : ZS h' z TI TO i1 i2 a b S xs ys i := by
  have n : ∀ {c}, c ∈ [z, TI, TO, i1, i2, a, b] → c ≠ S := fun hc e => hS (e ▸ hc)
  refine ⟨k _ _ (n (by simp)) x.tI, ⟨x.h1.1.at fun o e => k _ o (n (by simp)) e, x.h1.2.at fun o e => k _ o (n (by simp)) e⟩, ⟨x.h2.1.at fun o e => k _ o (n (by simp)) e, x.h2.2.at fun o e => k _ o (n (by simp)) e⟩, ?_⟩
  rcases x.st with ⟨hz, u, v, hO⟩ | ⟨T, f, oT, hz, hT, nT⟩
  · exact .inl ⟨k _ _ (n (by simp)) hz, u, v, k _ _ (n (by simp)) hO⟩
  · exact .inr ⟨T, f, oT, k _ _ (n (by simp)) hz, k _ _ (fun e => nT (by simp [e])) hT, nT⟩
section
variable {X : Cx} {pins : List (Addr × Obj)} {σ : L2.St} {A : Around} {E : Value → Shared → Prop} {z TI TO i1 i2 a b S : Addr} {its1 its2 : List Value}
/-- one turn of the zip, whatever it did before -/
theorem zs_item {s : Shared} {i : Nat} {u v : Value} {Q : Option Value → Shared → Prop} (hh : A.handled = none) (Sp : ZipSep2 z TI TO i1 i2 [i1, a] [i2, b]) (hS : S ∉ [z, TI, TO, i1, i2, a, b]) (hn : ∀ c ∈ [z, TO, i1, i2, S], c < s.heap.objs.size)
    (x : ZS s.heap z TI TO i1 i2 a b S its1.toArray its2.toArray i) (e1 : its1[i]? = some u) (e2 : its2[i]? = some v)
    (hQ : ∀ h' tk, ZS h' z TI TO i1 i2 a b S its1.toArray its2.toArray (i + 1) → IsTupOf2 h' s.heap.objs.size u v → h'.objs.size = s.heap.objs.size + 1 → (∀ c o, c ∉ [z, TO, i1, i2] → s.heap.get? c = some o → h'.get? c = some o) →
      Q (some (.ref s.heap.objs.size)) { s with heap := h', toks := tk }) : wpAny (model X.prog X.w) A (pyNext (.ref z)) Q E s := by
  have hai : a ≠ i1 := fun e => by
    subst e
    obtain ⟨o, ho, hc, _⟩ := x.h1.1
    obtain ⟨o2, ho2, hc2, _⟩ := x.h1.2
    rw [ho] at ho2
    cases ho2
    rw [hc] at hc2
    exact absurd hc2 (by decide)
  have hbi : b ≠ i2 := fun e => by
    subst e
    obtain ⟨o, ho, hc, _⟩ := x.h2.1
    obtain ⟨o2, ho2, hc2, _⟩ := x.h2.2
    rw [ho] at ho2
    cases ho2
    rw [hc] at hc2
    exact absurd hc2 (by decide)
  have D1 := Draws.tuple (prog := X.prog) (w := X.w) (A := A.in1) hh i1 a hai its1.toArray
  have D2 := Draws.tuple (prog := X.prog) (w := X.w) (A := A.in1) hh i2 b hbi its2.toArray
  have l1 : i < its1.toArray.size := by simpa using (List.getElem?_eq_some_iff.mp e1).1
  have l2 : i < its2.toArray.size := by simpa using (List.getElem?_eq_some_iff.mp e2).1
  have nT : s.heap.objs.size ∉ [z, TO, i1, i2, S] := fun hm => Nat.lt_irrefl _ (hn _ hm)
  have fin : ∀ x1 x2, its1.toArray[i]? = some x1 → its2.toArray[i]? = some x2 → x1 = u ∧ x2 = v := fun x1 x2 q1 q2 => by
    have a1 : its1[i]? = some x1 := by simpa using q1
    have a2 : its2[i]? = some x2 := by simpa using q2
    rw [e1] at a1
    rw [e2] at a2
    exact ⟨(Option.some.inj a1).symm, (Option.some.inj a2).symm⟩
  rcases x.st with ⟨hz, p, q, hO⟩ | ⟨T, f, oT, hz, hT, nT'⟩
  · refine wpAny_pyNext_zipD2_item Sp D1 D2 hz x.tI hO x.h1 x.h2 l1 l2 fun x1 x2 h' tk q1 q2 b1 b2 d1 d2 b5 b6 b7 => ?_
    obtain ⟨rfl, rfl⟩ := fin _ _ q1 q2
    exact hQ h' tk ⟨b7 _ _ Sp.TIz Sp.TITO Sp.TIi1 Sp.TIi2 x.tI, d1, d2, .inr ⟨_, false, _, b1, b5, nT⟩⟩ b5 b6 fun c o hc e => b7 c o (fun w => hc (by simp [w])) (fun w => hc (by simp [w])) (fun w => hc (by simp [w])) (fun w => hc (by simp [w])) e
  · refine next_zipH_item Sp D1 D2 hz hT x.tI x.h1 x.h2 l1 l2 fun x1 x2 h' tk q1 q2 b1 d1 d2 b5 b6 b7 => ?_
    obtain ⟨rfl, rfl⟩ := fin _ _ q1 q2
    exact hQ h' tk ⟨b7 _ _ Sp.TIz Sp.TIi1 Sp.TIi2 x.tI, d1, d2, .inr ⟨T, true, oT, b1, b7 _ _ (fun w => nT' (by simp [w])) (fun w => nT' (by simp [w])) (fun w => nT' (by simp [w])) hT, nT'⟩⟩ b5 b6 fun c o hc e => b7 c o (fun w => hc (by simp [w])) (fun w => hc (by simp [w])) (fun w => hc (by simp [w])) e
theorem zs_done {s : Shared} {i : Nat} {Q : Option Value → Shared → Prop} (hh : A.handled = none) (Sp : ZipSep2 z TI TO i1 i2 [i1, a] [i2, b])
    (x : ZS s.heap z TI TO i1 i2 a b S its1.toArray its2.toArray i) (hi1 : i ≤ its1.length) (hi2 : i ≤ its2.length) (he : i = its1.length ∨ i = its2.length)
    (hQ : ∀ h' tk, (∀ c o, c ∉ [z, TO, i1, i2] → s.heap.get? c = some o → h'.get? c = some o) → Q none { s with heap := h', toks := tk }) : wpAny (model X.prog X.w) A (pyNext (.ref z)) Q E s := by
  have hai : a ≠ i1 := fun e => by
    subst e
    obtain ⟨o, ho, hc, _⟩ := x.h1.1
    obtain ⟨o2, ho2, hc2, _⟩ := x.h1.2
    rw [ho] at ho2
    cases ho2
    rw [hc] at hc2
    exact absurd hc2 (by decide)
  have hbi : b ≠ i2 := fun e => by
    subst e
    obtain ⟨o, ho, hc, _⟩ := x.h2.1
    obtain ⟨o2, ho2, hc2, _⟩ := x.h2.2
    rw [ho] at ho2
    cases ho2
    rw [hc] at hc2
    exact absurd hc2 (by decide)
  have D1 := Draws.tuple (prog := X.prog) (w := X.w) (A := A.in1) hh i1 a hai its1.toArray
  have D2 := Draws.tuple (prog := X.prog) (w := X.w) (A := A.in1) hh i2 b hbi its2.toArray
  have he' : i = its1.toArray.size ∨ i = its2.toArray.size := by simpa using he
  rcases x.st with ⟨hz, p, q, hO⟩ | ⟨T, f, oT, hz, hT, nT'⟩
  · exact wpAny_pyNext_zipD2_end Sp D1 D2 hz x.tI hO x.h1 x.h2 (by simpa using hi1) (by simpa using hi2) he' fun h' tk b7 => hQ h' tk fun c o hc e => b7 c o (fun w => hc (by simp [w])) (fun w => hc (by simp [w])) (fun w => hc (by simp [w])) (fun w => hc (by simp [w])) e
  · exact next_zipH_end Sp D1 D2 hz hT x.tI x.h1 x.h2 (by simpa using hi1) he' fun h' tk b7 => hQ h' tk fun c o hc e => b7 c o (fun w => hc (by simp [w])) (fun w => hc (by simp [w])) (fun w => hc (by simp [w])) e
end
section
variable {X : Cx} {pins : List (Addr × Obj)} {σ : L2.St} {A : Around} {R : Result → Shared → Prop} {z TI TO i1 i2 a b S : Addr} {its1 its2 : List Value} {xs ys : List V} {H0 : Hp}
theorem zl_loop (hh : A.handled = none) (Sp : ZipSep2 z TI TO i1 i2 [i1, a] [i2, b]) (hS : S ∉ [z, TI, TO, i1, i2, a, b]) (hf : ∀ H c, c ∈ [z, TO, i1, i2, S] → H c = none → FpOk X pins H c) (vx : Vals xs its1) (vy : Vals ys its2) (hsz : xs.length ≤ sizeLine) (res : Value)
    (fin : ∀ (s' : Shared) (as : List Addr) (H1 : Hp) (acc : Array Value) (c : Nat), Tells H0 (xs.zip ys) as H1 → Inv X pins σ H1 s' → (∀ c ∈ [z, TO, i1, i2, S], H1 c = none) → s'.heap.get? S = some { cls := .type "list", dict := none, data := .seq acc c, slots := #[] } → acc.toList = as.map Value.ref → R (.ok (.ret res)) s') :
    ∀ (k i : Nat) (s : Shared) (c : Nat) (acc : Array Value) (as : List Addr) (H1 : Hp), (xs.zip ys).length - i = k → i ≤ (xs.zip ys).length → ZS s.heap z TI TO i1 i2 a b S its1.toArray its2.toArray i → Tells H0 ((xs.zip ys).take i) as H1 → Inv X pins σ H1 s →
      (∀ c ∈ [z, TO, i1, i2, S], H1 c = none ∧ c < s.heap.objs.size) → s.heap.get? S = some { cls := .type "list", dict := none, data := .seq acc c, slots := #[] } → acc.toList = as.map Value.ref →
      codeAny (model X.prog X.w) A (.builtin "list.extend.loop" ⟨[.ref S, .ref z, res], []⟩) R s := by
  have L1 := vx.length
  have L2 := vy.length
  have Lz : (xs.zip ys).length = min xs.length ys.length := List.length_zip
  have hSf : S ∉ [z, TO, i1, i2] := fun hm => hS (by
    simp only [List.mem_cons, List.not_mem_nil, or_false] at hm ⊢
    rcases hm with q | q | q | q <;> simp [q])
  intro k
  induction k with
  | zero =>
    intro i s c acc as H1 hk hi x t I hn hSl hacc
    have hin : i = (xs.zip ys).length := by omega
    refine codeAny_builtin PySem.F.entry_extend_loop ?_
    rw [Around.under_plainId PySem.F.plain_extend_loop _]
    show wpAny _ A.in1 (pyNext (.ref z) >>= _) _ _ _
    refine wpAny_bind (zs_done (X := X) (A := A.in1) (s := s) hh Sp x (by omega) (by omega) (by omega) fun h' tk hk' => ?_)
    refine wpAny_pure (fin _ as H1 acc c (by rw [hin, List.take_length] at t; exact t) (I.turnedL (ch := [z, TO, i1, i2]) hk' fun b hb => hf H1 b (by
      simp only [List.mem_cons, List.not_mem_nil, or_false] at hb ⊢
      rcases hb with q | q | q | q <;> simp [q]) (hn b (by
      simp only [List.mem_cons, List.not_mem_nil, or_false] at hb ⊢
      rcases hb with q | q | q | q <;> simp [q])).1) (fun c hc => (hn c hc).1) (hk' _ _ hSf hSl) hacc)
  | succ k ih =>
    intro i s c acc as H1 hk hi x t I hn hSl hacc
    have hlt : i < (xs.zip ys).length := by omega
    have q1 : i < its1.length := by omega
    have q2 : i < its2.length := by omega
    have p1 : i < xs.length := by omega
    have p2 : i < ys.length := by omega
    have hal : as.length = i := by rw [t.len, List.length_take]; omega
    have hacs : acc.size = i := by rw [← Array.length_toList, hacc, List.length_map, hal]
    refine codeAny_builtin PySem.F.entry_extend_loop ?_
    rw [Around.under_plainId PySem.F.plain_extend_loop _]
    show wpAny _ A.in1 (pyNext (.ref z) >>= _) _ _ _
    refine wpAny_bind (zs_item (X := X) (A := A.in1) (s := s) hh Sp hS (fun c hc => (hn c hc).2) x (List.getElem?_eq_getElem q1) (List.getElem?_eq_getElem q2) fun h' tk x' hT hz' hk' => ?_)
    have hS' := hk' _ _ hSf hSl
    have hSlt : S < s.heap.objs.size := (hn S (by simp)).2
    have up : ∀ b o, b ≠ S → h'.get? b = some o → (h'.update S (Obj.mapSeq (·.push (Value.ref s.heap.objs.size)))).get? b = some o := fun b o hb e => (Heap.get?_update_other _ _ (Ne.symm hb)).trans e
    have ru : RelV xs[i] its1[i] := by
      obtain ⟨u, hu, r⟩ := vx.get (List.getElem?_eq_getElem p1)
      rw [List.getElem?_eq_getElem q1] at hu
      cases hu
      exact r
    have rv : RelV ys[i] its2[i] := by
      obtain ⟨u, hu, r⟩ := vy.get (List.getElem?_eq_getElem p2)
      rw [List.getElem?_eq_getElem q2] at hu
      cases hu
      exact r
    have hne : s.heap.objs.size ≠ S := Nat.ne_of_gt hSlt
    have eT := up _ _ hne hT
    have new : ObjOk X.prog X.w (upd H1 s.heap.objs.size (.tup [xs[i], ys[i]])) (h'.update S (Obj.mapSeq (·.push (Value.ref s.heap.objs.size)))) s.heap.objs.size (.tup [xs[i], ys[i]]) :=
      ⟨by show 2 ≤ sizeLine; decide, [its1[i], its2[i]], .cons ru (.cons rv .nil), ⟨_, eT, rfl, _, rfl⟩⟩
    have I1 : Inv X pins σ (upd H1 s.heap.objs.size (.tup [xs[i], ys[i]])) { s with heap := h'.update S (Obj.mapSeq (·.push (Value.ref s.heap.objs.size))), toks := tk } :=
      I.turnedNew (ch := [z, TO, i1, i2, S]) (fun b o hb e => up b o (fun w => hb (by simp [w])) (hk' b o (fun w => hb (by
        simp only [List.mem_cons, List.not_mem_nil, or_false] at w ⊢
        rcases w with q | q | q | q <;> simp [q])) e)) (fun b hb => hf H1 b hb (hn b hb).1) (Nat.le_refl _) new
    show wpAny _ A.in1 (updateSeq S (·.push (Value.ref s.heap.objs.size)) >>= _) _ _ _
    refine wpAny_bind ?_
    refine wpAny_updateSeq hS' rfl (wpAny_pure ⟨plainId_quiet PySem.F.plain_extend_loop _, ih (i + 1) _ _ (acc.push (Value.ref s.heap.objs.size)) (as ++ [s.heap.objs.size]) _ (by omega) hlt (x'.at hS up) ?_ I1 (fun c hc => ⟨?_, ?_⟩) (Heap.get?_update_self _ hS' rfl) (by rw [Array.toList_push, hacc, List.map_append]; rfl)⟩) (by rw [hacs]; omega) (by show (acc.push (Value.ref s.heap.objs.size)).size ≤ sizeLine + 1; rw [Array.size_push, hacs]; omega)
    · have ez : (xs.zip ys)[i]? = some (xs[i], ys[i]) := by
        rw [List.getElem?_eq_getElem hlt, List.getElem_zip]
      rw [take_snoc ez]
      exact Tells.snoc (p := (xs[i], ys[i])) t (I.hok.fresh (Nat.le_refl _))
    · rw [upd_ne (Nat.ne_of_lt (hn c hc).2)]
      exact (hn c hc).1
    · have hlt' : s.heap.objs.size < (h'.update S (Obj.mapSeq (·.push (Value.ref s.heap.objs.size)))).objs.size := Heap.lt_size eT
      exact Nat.lt_trans (hn c hc).2 hlt'
end
end DZ
namespace DZ
open PySem PySem.Spec PyProof.Rows L2
open Sem (wp)
theorem zip_no_len : typeLookup (.type "zip") "__len__" = pure none := by rw [typeLookup_type, builtinLookup_eq_fast]; kernel_rfl
theorem zip_no_hint : typeLookup (.type "zip") "__length_hint__" = pure none := by rw [typeLookup_type, builtinLookup_eq_fast]; kernel_rfl
theorem ge5 {N c S : Nat} (h : N ≤ S) (w : c = N + 4 ∨ c = N + 3 ∨ c = N ∨ c = N + 1 ∨ c = S) : N ≤ c := by omega
theorem no7 {N a b S : Nat} (ha : a < N) (hb : b < N) (hz : N + 4 < S) : ¬ (S = N + 4 ∨ S = N + 2 ∨ S = N + 3 ∨ S = N ∨ S = N + 1 ∨ S = a ∨ S = b) := by omega
theorem lt5 {N c S m : Nat} (hN : N + 5 ≤ m) (hS : S < m) (w : c = N + 4 ∨ c = N + 3 ∨ c = N ∨ c = N + 1 ∨ c = S) : c < m := by omega
theorem le4 {N S : Nat} (h : N + 4 < S) : N ≤ S := by omega
theorem lt4 {N m : Nat} (h : N + 5 ≤ m) : N + 4 < m := by omega
/-- an object of ours is told -/
theorem inv_tell {X : Cx} {pins : List (Addr × Obj)} {σ : L2.St} {H : Hp} {s : Shared} {T : Addr} {ob : HO} (I : Inv X pins σ H s) (hf : FpOk X pins H T) (new : ObjOk X.prog X.w (upd H T ob) s.heap T ob) : Inv X pins σ (upd H T ob) s := by
  have hn : H T = none := hf.1
  refine I.step (h' := s.heap) (g' := s.gens) (d' := s.drawn) (t' := s.toks) (ch := [T]) (fun b hb => ?_) (fun b o _ _ hc e _ => e) (fun b o _ _ hc e _ => ⟨o.slots, e⟩)
    (fun b o hb e n => ?_) (fun b o hc e => ⟨o, e⟩) (fun b xs e => ?_) (fun b o u e => ?_) (fun b ps e => ⟨#[], ?_⟩) (fun m hm => hm) (fun b u e => ?_) I.bare
  · have e : b = T := by simpa using hb
    rw [e]
    exact ⟨hf.2.2.2.1, hf.2.1, hf.2.2.2.2.1, hf.2.2.2.2.2⟩
  · rw [upd_ne (fun w => hb (by simp [w]))]; exact n
  · rw [upd_ne (ne_of_none e hn)]; exact e
  · rw [upd_ne (ne_of_none e hn)]; exact e
  · rw [upd_ne (ne_of_none e hn), e]; simp
  · by_cases hb : b = T
    · subst hb
      rw [upd_same] at e
      cases e
      exact new
    · rw [upd_ne hb] at e
      exact (I.hok b u e).stay (fun c v hc q => q) (fun c q => by rw [upd_ne (ne_of_none q hn)]; exact q) fun c xs q => by rw [upd_ne (ne_of_none q hn)]; exact q
theorem vals_refs : ∀ as : List Addr, Vals (as.map V.ref) (as.map Value.ref)
  | [] => .nil
  | a :: as => .cons rfl (vals_refs as)
theorem ZS.typeIs {s : Shared} {z TI TO i1 i2 a b S : Addr} {xs ys : Array Value} {i : Nat} (x : ZS s.heap z TI TO i1 i2 a b S xs ys i) : s.TypeIs (.ref z) "zip" := by
  rcases x.st with ⟨hz, _⟩ | ⟨_, _, _, hz, _⟩
  · exact ⟨_, hz, rfl⟩
  · exact ⟨_, hz, rfl⟩
section
variable {X : Cx} {pins : List (Addr × Obj)} {σ : L2.St} {A : Around} {R : Result → Shared → Prop} {z TI TO i1 i2 a b S : Addr} {its1 its2 : List Value} {xs ys : List V} {H0 : Hp} {s : Shared}
theorem zl_extend (hh : A.handled = none) (Sp : ZipSep2 z TI TO i1 i2 [i1, a] [i2, b]) (hS : S ∉ [z, TI, TO, i1, i2, a, b]) (hf : ∀ H c, c ∈ [z, TO, i1, i2, S] → H c = none → FpOk X pins H c) (vx : Vals xs its1) (vy : Vals ys its2) (hsz : xs.length ≤ sizeLine) (res : Value)
    (c0 : Nat) (hSl : s.heap.get? S = some { cls := .type "list", dict := none, data := .seq #[] c0, slots := #[] }) (hz0 : IsZip s.heap z TI TO .none) (x : ZS s.heap z TI TO i1 i2 a b S its1.toArray its2.toArray 0) (I : Inv X pins σ H0 s) (hn : ∀ c ∈ [z, TO, i1, i2, S], H0 c = none ∧ c < s.heap.objs.size)
    (fin : ∀ (s' : Shared) (as : List Addr) (H1 : Hp) (acc : Array Value) (c : Nat), Tells H0 (xs.zip ys) as H1 → Inv X pins σ H1 s' → (∀ c ∈ [z, TO, i1, i2, S], H1 c = none) → s'.heap.get? S = some { cls := .type "list", dict := none, data := .seq acc c, slots := #[] } → acc.toList = as.map Value.ref → R (.ok (.ret res)) s') :
    wpAny (model X.prog X.w) A.in1 (Builtin.List.listExtendWith (.ref S) (.ref z) res)
      (fun fin s' => match fin with | .done f => R (.ok f) s' | .again c' => c'.quiet = true ∧ codeAny (model X.prog X.w) A c' R s') (fun e s' => R (.error e) s') s := by
  have hSz : S ≠ z := fun e => hS (by simp [e])
  unfold Builtin.List.listExtendWith
  refine wpAny_bind (wpAny_typeOf x.typeIs ?_)
  have h1 : Builtin.List.listSameRef (.ref S) (.ref z) = false := by simp [Builtin.List.listSameRef, hSz]
  have h2 : (Value.type "zip" == Value.type "list") = false := by decide
  have h3 : (Value.type "zip" == Value.type "tuple") = false := by decide
  simp only [h1, h2, h3, Bool.or_false, Bool.false_eq_true, if_false]
  refine wpAny_bind (wpAny_pyIter_zip hz0 ?_)
  refine wpAny_bind (wpAny_holding ?_)
  unfold Builtin.List.listLengthHint
  refine wpAny_bind (wpAny_specialOf x.typeIs zip_no_len ?_)
  show wpAny _ A.in1 (specialOf (Value.ref z) (Str.ofString "__length_hint__") >>= _) _ _ _
  refine wpAny_bind (wpAny_specialOf x.typeIs zip_no_hint ?_)
  refine wpAny_pure ?_
  show wpAny _ A.in1 (rule "list.extend.makes-room" >>= fun _ => Builtin.List.listTouch (.ref S) >>= fun _ =>
    again (.builtin "list.extend.loop" ⟨[.ref S, .ref z, res], []⟩)) _ _ _
  refine wpAny_bind (wpAny_rule ?_)
  refine wpAny_bind ?_
  show wpAny _ A.in1 (updateSeq S (·.push .none) >>= fun _ => updateSeq S (·.pop)) _ _ _
  refine wpAny_bind (wpAny_updateSeq hSl rfl ?_)
  have hS2 := Heap.get?_update_self (Obj.mapSeq (·.push Value.none)) hSl rfl
  refine wpAny_updateSeq (hz := by seq_fits) hS2 rfl ?_
  have hS3 := Heap.get?_update_self (Obj.mapSeq (·.pop)) hS2 rfl
  have oth : ∀ b o, b ≠ S → s.heap.get? b = some o → ((s.heap.update S (Obj.mapSeq (·.push Value.none))).update S (Obj.mapSeq (·.pop))).get? b = some o :=
    fun b o hb e => (Heap.get?_update_other _ _ (Ne.symm hb)).trans ((Heap.get?_update_other _ _ (Ne.symm hb)).trans e)
  have IT : Inv X pins σ H0 { s with heap := (s.heap.update S (Obj.mapSeq (·.push Value.none))).update S (Obj.mapSeq (·.pop)) } :=
    I.turnedL (t' := s.toks) (ch := [S]) (fun b o hb e => oth b o (fun w => hb (by simp [w])) e) fun b hb => hf H0 b (by
      have : b = S := by simpa using hb
      simp [this]) (hn b (by
      have : b = S := by simpa using hb
      simp [this])).1
  refine wpAny_pure ⟨plainId_quiet PySem.F.plain_extend_loop _, zl_loop hh Sp hS hf vx vy hsz res fin (xs.zip ys).length 0 _ _ #[] [] H0 (Nat.sub_zero _) (Nat.zero_le _) (x.at hS oth) (by rw [List.take_zero]; exact .nil)
    IT (fun c hc => ⟨(hn c hc).1, ?_⟩) hS3 rfl⟩
  show c < ((s.heap.update S (Obj.mapSeq (·.push Value.none))).update S (Obj.mapSeq (·.pop))).objs.size
  have e : ((s.heap.update S (Obj.mapSeq (·.push Value.none))).update S (Obj.mapSeq (·.pop))).objs.size = s.heap.objs.size := by
    rw [(Heap.SameBut.update ..).1, (Heap.SameBut.update ..).1]
  rw [e]
  exact (hn c hc).2
/-- a zip that begins, as the hand layer sees it -/
structure ZB (X : Cx) (pins : List (Addr × Obj)) (σ : L2.St) (H : Hp) (s : Shared) (z a b : Addr) (xs ys : List V) (its1 its2 : List Value) : Prop where
  inv : Inv X pins σ H s
  vx : Vals xs its1
  vy : Vals ys its2
  sz : xs.length ≤ sizeLine
  st : ∃ N, z = N + 4 ∧ a < N ∧ b < N ∧ N + 5 ≤ s.heap.objs.size ∧ IsZip s.heap (N + 4) (N + 2) (N + 3) .none ∧ (∃ u v, IsTupOf2 s.heap (N + 3) u v) ∧ IsTupOf2 s.heap (N + 2) (.ref N) (.ref (N + 1)) ∧ (s.heap.IsTupleIter N a 0 ∧ s.heap.IsTuple a its1.toArray) ∧ (s.heap.IsTupleIter (N + 1) b 0 ∧ s.heap.IsTuple b its2.toArray) ∧
    ∀ H c, N ≤ c → H c = none → FpOk X pins H c
  no : ∀ c, z ≤ c + 4 → c ≤ z → H c = none
theorem zb_extend {z a b S : Addr} (hh : A.handled = none) (B : ZB X pins σ H0 s z a b xs ys its1 its2) (hz : z < S) (hHS : H0 S = none) (res : Value) (c0 : Nat) (hSl : s.heap.get? S = some { cls := .type "list", dict := none, data := .seq #[] c0, slots := #[] })
    (fin : ∀ (s' : Shared) (as : List Addr) (H1 : Hp) (acc : Array Value) (c : Nat), Tells H0 (xs.zip ys) as H1 → Inv X pins σ H1 s' → H1 S = none → FpOk X pins H1 S → s'.heap.get? S = some { cls := .type "list", dict := none, data := .seq acc c, slots := #[] } → acc.toList = as.map Value.ref → R (.ok (.ret res)) s') :
    wpAny (model X.prog X.w) A.in1 (Builtin.List.listExtendWith (.ref S) (.ref z) res)
      (fun fin s' => match fin with | .done f => R (.ok f) s' | .again c' => c'.quiet = true ∧ codeAny (model X.prog X.w) A c' R s') (fun e s' => R (.error e) s') s := by
  obtain ⟨N, rfl, ha, hb, hN, q1, ⟨u, v, q2⟩, q3, q4, q5, q6⟩ := B.st
  have ge : ∀ c ∈ [N + 4, N + 3, N, N + 1, S], N ≤ c := fun c hc => by
    simp only [List.mem_cons, List.not_mem_nil, or_false] at hc
    exact ge5 (le4 hz) hc
  refine zl_extend (TI := N + 2) (TO := N + 3) (i1 := N) (i2 := N + 1) hh (zip_sep2 (by simpa using ha) (by simpa using hb)) ?_ (fun H c hc hn => q6 H c (ge c hc) hn) B.vx B.vy B.sz res c0 hSl q1 ⟨q3, q4, q5, .inl ⟨q1, u, v, q2⟩⟩ B.inv (fun c hc => ⟨?_, ?_⟩) fun s' as H1 acc c t I hn hSl' hacc => fin s' as H1 acc c t I (hn S (by simp)) (q6 H1 S (ge S (by simp)) (hn S (by simp))) hSl' hacc
  · intro hm
    simp only [List.mem_cons, List.not_mem_nil, or_false] at hm
    exact no7 ha hb hz hm
  · simp only [List.mem_cons, List.not_mem_nil, or_false] at hc
    rcases hc with w | w | w | w | w
    · rw [w]; exact B.no _ (by simp) (by simp)
    · rw [w]; exact B.no _ (by simp) (by simp)
    · rw [w]; exact B.no _ (by simp) (by simp)
    · rw [w]; exact B.no _ (by simp) (by simp)
    · rw [w]; exact hHS
  · have hSs : S < s.heap.objs.size := Heap.lt_size hSl
    simp only [List.mem_cons, List.not_mem_nil, or_false] at hc
    exact lt5 hN hSs hc
theorem ZB.push {z a b : Addr} (B : ZB X pins σ H0 s z a b xs ys its1 its2) {h' : Heap} {t' : Nat} (hs : s.heap.objs.size ≤ h'.objs.size) (k : ∀ c o, s.heap.get? c = some o → h'.get? c = some o) : ZB X pins σ H0 { s with heap := h', toks := t' } z a b xs ys its1 its2 := by
  obtain ⟨N, e, ha, hb, hN, q1, ⟨u, v, q2⟩, q3, q4, q5, q6⟩ := B.st
  exact ⟨B.inv.kept k, B.vx, B.vy, B.sz, ⟨N, e, ha, hb, Nat.le_trans hN hs, k _ _ q1, ⟨u, v, k _ _ q2⟩, k _ _ q3, ⟨q4.1.at fun o x => k _ o x, q4.2.at fun o x => k _ o x⟩, ⟨q5.1.at fun o x => k _ o x, q5.2.at fun o x => k _ o x⟩, q6⟩, B.no⟩
theorem ZB.lt {z a b : Addr} (B : ZB X pins σ H0 s z a b xs ys its1 its2) : z < s.heap.objs.size := by
  obtain ⟨N, e, ha, hb, hN, _⟩ := B.st
  rw [e]
  exact lt4 hN
theorem zb_list {z a b : Addr} {Q : Value → Shared → Prop} {E : Value → Shared → Prop} (hh : A.handled = none) (B : ZB X pins σ H0 s z a b xs ys its1 its2)
    (hQ : ∀ (s' : Shared) (as : List Addr) (H1 : Hp) (S : Addr), Tells H0 (xs.zip ys) as H1 → H1 S = none → Inv X pins σ (upd H1 S (.lst (as.map V.ref))) s' → Q (.ref S) s') :
    wpAny (model X.prog X.w) A (call (.type "list") [.ref z]) Q E s := by
  refine callType_codes (Q₁ := fun obj s₁ => obj = .ref s.heap.objs.size ∧ s₁ = { s with heap := s.heap.push { cls := .type "list", data := .seq #[] } }) PySem.F.called_list (PySem.F.typeCall_list_1 _) PySem.F.entry_list_init
    (code_list_new _ ⟨rfl, rfl⟩) fun obj s₁ h₁ => ?_
  obtain ⟨rfl, rfl⟩ := h₁
  have hS : (s.heap.push { cls := .type "list", data := .seq #[] }).get? s.heap.objs.size = some { cls := .type "list", data := .seq #[] } := Heap.get?_push_size _ rfl
  have hSf : H0 s.heap.objs.size = none := B.inv.hok.fresh (Nat.le_refl _)
  refine ⟨⟨_, hS, rfl⟩, PySem.F.args_list_init_2 _ _, ?_⟩
  show wpAny _ _ (do let old ← Builtin.List.listItems (.ref s.heap.objs.size); Builtin.List.listUpdate (.ref s.heap.objs.size) (fun _ => #[]); letGo old.toList.reverse; Builtin.List.listExtendWith (.ref s.heap.objs.size) (.ref z) .none) _ _ _
  refine wpAny_bind ?_
  unfold Builtin.List.listItems
  refine wpAny_bind (wpAny_seqItems hS rfl (wpAny_pure ?_))
  show wpAny _ _ (updateSeq s.heap.objs.size (fun _ => #[]) >>= fun _ => letGo (#[] : Array Value).toList.reverse >>= fun _ => Builtin.List.listExtendWith (.ref s.heap.objs.size) (.ref z) .none) _ _ _
  refine wpAny_bind (wpAny_updateSeq hS rfl ?_)
  have hS₂ := Heap.get?_update_self (Obj.mapSeq (fun _ => (#[] : Array Value))) hS rfl
  have oth : ∀ b o, s.heap.get? b = some o → ((s.heap.push { cls := .type "list", data := .seq #[] }).update s.heap.objs.size (Obj.mapSeq (fun _ => (#[] : Array Value)))).get? b = some o :=
    fun b o e => (Heap.get?_update_other _ _ (Nat.ne_of_gt (Heap.lt_size e))).trans (Heap.get?_push_of_some _ e)
  refine wpAny_bind (wpAny_letGo ?_)
  refine zb_extend (A := A.in1) hh (B.push (t' := s.toks) (h' := (s.heap.push { cls := .type "list", data := .seq #[] }).update s.heap.objs.size (Obj.mapSeq (fun _ => (#[] : Array Value)))) ?_ oth) B.lt hSf .none _ hS₂ fun s' as H1 acc c t I hn hfp hSl hacc => ?_
  · rw [(Heap.SameBut.update ..).1, Heap.size_push]
    exact Nat.le_succ _
  · refine ⟨rfl, hQ s' as H1 _ t hn ?_⟩
    have hl : as.length = (xs.zip ys).length := t.len
    have hle : (as.map V.ref).length ≤ sizeLine := by
      rw [List.length_map, hl, List.length_zip]
      exact Nat.le_trans (Nat.min_le_left ..) B.sz
    exact inv_tell I hfp ⟨hle, acc.toList, c, by rw [hacc]; exact vals_refs as, by rw [Array.toArray_toList]; exact hSl⟩
end
end DZ
namespace DZ
open PySem PySem.Spec PyProof.Rows L2
open Sem (wp)
section
variable {X : Cx} {pins : List (Addr × Obj)} {σ : L2.St} {A : Around} {R : Result → Shared → Prop} {a b : Addr} {its1 its2 : List Value} {xs ys : List V} {H0 : Hp} {s : Shared}
theorem zb_collect {z : Addr} {Q : List Value → Shared → Prop} {E : Value → Shared → Prop} (hh : A.handled = none) (B : ZB X pins σ H0 s z a b xs ys its1 its2)
    (hQ : ∀ (s' : Shared) (as : List Addr) (H1 : Hp), Tells H0 (xs.zip ys) as H1 → Inv X pins σ H1 s' → Q (as.map Value.ref) s') :
    wpAny (model X.prog X.w) A (collect (.ref z)) Q E s := by
  unfold collect
  refine wpAny_bind (wpAny_runValue (codeAny_builtin F.entry_proto_collect ?_))
  rw [Around.under_plainId F.plain_proto_collect _]
  show wpAny _ A.in1 (newList [] >>= fun l => again (.builtin "list.__iadd__" ⟨[l, .ref z], []⟩)) _ _ s
  refine wpAny_bind (wpAny_newObj_type ?_)
  refine wpAny_pure ⟨plainId_quiet F.plain_list_iadd _, codeAny_builtin F.entry_list_iadd ?_⟩
  rw [Around.under_plainId F.plain_list_iadd _]
  have hS : (s.heap.push { cls := .type "list", data := .seq ([] : List Value).toArray }).get? s.heap.objs.size = some { cls := .type "list", data := .seq #[] } := Heap.get?_push_size _ rfl
  have hSf : H0 s.heap.objs.size = none := B.inv.hok.fresh (Nat.le_refl _)
  show wpAny _ A.in1 (Builtin.List.listExtendWith (.ref s.heap.objs.size) (.ref z) (.ref s.heap.objs.size)) _ _ _
  have key := zb_extend (A := A) (R := fun (q : Result) (s' : Shared) => ∃ (as : List Addr) (H1 : Hp) (acc : Array Value) (c : Nat), q = .ok (.ret (.ref s.heap.objs.size)) ∧ Tells H0 (xs.zip ys) as H1 ∧ Inv X pins σ H1 s' ∧ s'.heap.get? s.heap.objs.size = some { cls := .type "list", dict := none, data := .seq acc c, slots := #[] } ∧ acc.toList = as.map Value.ref)
    hh (B.push (t' := s.toks) (h' := s.heap.push { cls := .type "list", data := .seq ([] : List Value).toArray }) (by rw [Heap.size_push]; exact Nat.le_succ _) fun c o e => Heap.get?_push_of_some _ e) B.lt hSf (.ref s.heap.objs.size) _ hS fun s' as H1 acc c t I hn hfp hSl hacc => ⟨as, H1, acc, c, rfl, t, I, hSl, hacc⟩
  refine wpAny_mono key (fun fin s' x => ?_) fun e s' x => ?_
  · cases fin with
    | done f =>
      obtain ⟨as, H1, acc, c, e, t, I, hSl, hacc⟩ := x
      cases e
      show wpAny _ A (load s.heap.objs.size >>= _) _ _ _
      refine wpAny_bind (wpAny_load hSl ?_)
      refine wpAny_pure ?_
      show Q acc.toList _
      rw [hacc]
      exact hQ _ as H1 t I
    | again c₁ =>
      refine ⟨x.1, codeAny_mono x.2 fun q s₂ y => ?_⟩
      obtain ⟨as, H1, acc, c, rfl, t, I, hSl, hacc⟩ := y
      show wpAny _ A (load s.heap.objs.size >>= _) _ _ _
      refine wpAny_bind (wpAny_load hSl ?_)
      refine wpAny_pure ?_
      show Q acc.toList _
      rw [hacc]
      exact hQ _ as H1 t I
  · obtain ⟨_, _, _, _, e', _⟩ := x
    cases e'
theorem ZB.typeIs {z : Addr} (B : ZB X pins σ H0 s z a b xs ys its1 its2) : s.TypeIs (.ref z) "zip" := by
  obtain ⟨N, rfl, ha, hb, hN, q1, _⟩ := B.st
  exact ⟨_, q1, rfl⟩
theorem zb_new {z : Addr} {Q₁ : Value → Shared → Prop} {E : Value → Shared → Prop} (hh : A.handled = none) (B : ZB X pins σ H0 s z a b xs ys its1 its2)
    (hQ : ∀ (s' : Shared) (as : List Addr) (H1 : Hp) (T : Addr), Tells H0 (xs.zip ys) as H1 → H1 T = none → Inv X pins σ (upd H1 T (.tup (as.map V.ref))) s' → s'.TypeIs (.ref T) "tuple" → Q₁ (.ref T) s') :
    codeAny (model X.prog X.w) A (.call (.builtin "tuple.__new__") ⟨[.type "tuple", .ref z], []⟩) (wants Q₁ E) s := by
  refine codeAny_of_tree ?_
  show wpAny _ A.in1 (do checkBuiltinCall "tuple.__new__" ⟨[.type "tuple", .ref z], []⟩; again (.builtin "tuple.__new__" ⟨[.type "tuple", .ref z], []⟩)) _ _ s
  refine wpAny_bind (wpAny_of_eq (F.newCall_tuple_1 _) (wpAny_pure ⟨plainId_quiet F.plain_tuple_new _, codeAny_builtin F.entry_tuple_new ?_⟩))
  rw [Around.under_plainId F.plain_tuple_new _]
  have hsub := sub_tuple_self
  have hinit := init_tuple_lookup
  have hmh := madeHere_tuple
  have hTI : s.TypeIs (.ref z) "zip" := B.typeIs
  have hh1 : A.in1.handled = none := hh
  wp_walk using wpAny_typeOf hTI, zb_collect (A := A.in1) hh1 B
  intro s' as H1 t I
  have hl : as.length = (xs.zip ys).length := t.len
  have hle : as.length ≤ sizeLine := by
    rw [hl, List.length_zip]
    exact Nat.le_trans (Nat.min_le_left ..) B.sz
  show wpAny _ _ (Builtin.Tuple.tupleExact (as.map Value.ref).toArray >>= fun v => ret v) _ _ _
  unfold Builtin.Tuple.tupleExact
  refine wpAny_bind (wpAny_newObj_type ?_ (by show (as.map Value.ref).toArray.size ≤ sizeLine; rw [List.size_toArray, List.length_map]; exact hle))
  refine wpAny_pure ?_
  have I2 : Inv X pins σ (upd H1 s'.heap.objs.size (.tup (as.map V.ref))) { s' with heap := s'.heap.push { cls := .type "tuple", data := .seq (as.map Value.ref).toArray } } :=
    I.laid (t' := s'.toks) (fun b o e => Heap.get?_push_of_some _ e) (Nat.le_refl _) (show ObjOk X.prog X.w _ _ _ (.tup (as.map V.ref)) from ⟨by rw [List.length_map]; exact hle, _, vals_refs as, IsTup.new _ _⟩)
  exact hQ _ as H1 _ t (I.hok.fresh (Nat.le_refl _)) I2 ⟨_, Heap.get?_push_size _ rfl, rfl⟩
theorem zb_tuple {z : Addr} {Q : Value → Shared → Prop} {E : Value → Shared → Prop} (hh : A.handled = none) (B : ZB X pins σ H0 s z a b xs ys its1 its2)
    (hQ : ∀ (s' : Shared) (as : List Addr) (H1 : Hp) (T : Addr), Tells H0 (xs.zip ys) as H1 → H1 T = none → Inv X pins σ (upd H1 T (.tup (as.map V.ref))) s' → Q (.ref T) s') :
    wpAny (model X.prog X.w) A (call (.type "tuple") [.ref z]) Q E s := by
  refine callType_codes (Q₁ := fun obj s₁ => s₁.TypeIs obj "tuple" ∧ Q obj s₁) F.called_tuple (F.typeCall_tuple_1 _) F.entry_object_init
    (zb_new (A := A.in1) hh B fun s' as H1 T t hn I ty => ⟨ty, hQ s' as H1 T t hn I⟩) fun obj s₁ h₁ => ?_
  exact ⟨h₁.1, F.args_object_init_2 obj _, object_init_meets F.called_tuple.init.lookup F.called_tuple.made (by decide) X.prog X.w A.in1 _ s₁ ⟨h₁.1, rfl, h₁.2⟩⟩
end
/-! ### tuple(zip(xs, ys)), list(zip(xs, ys)), of two tuples -/
def tZip (K : PySem.W.Frag) (mk : List V → HO) (ta : TA) : TE := fun σ H Q => ta σ H fun vs H1 => ∃ a b xs ys, vs = [.ref a, .ref b] ∧ SqT K H1 a xs ∧ SqT K H1 b ys ∧ ∀ as H2 T, Tells H1 (xs.zip ys) as H2 → H2 T = none → Q (.ref T) (upd H2 T (mk (as.map V.ref)))
section
variable {X : Cx} {e1 e2 : Expr} {ta : TA} {p p2 pos pos2 : Pos}
theorem zip_made {pins : List (Addr × Obj)} {σ : L2.St} {H : Hp} {s : Shared} {Q : Value → Shared → Prop} (hg : Gl X "zip") (hm : X.mg "zip" = none) (ha : PA X [e1, e2] ta) (I : Inv X pins σ H s) {K : List V → Hp → Prop} (h : ta σ H K)
    (hs : starEach [e1, e2] X.env = (false, eval e1 X.env) :: starEach [e2] X.env) (hpl : (backTo pos2 (starEach [e2] X.env)).any (·.1) = false)
    (hQ : ∀ (s' : Shared) (H1 : Hp) (vs : List V), K vs H1 → ∀ a b xs ys, vs = [.ref a, .ref b] → SqT X.K H1 a xs → SqT X.K H1 b ys → ∀ z its1 its2, ZB X pins σ H1 s' z a b xs ys its1 its2 → Q (.ref z) s')
    (hk : ∀ H1 vs, K vs H1 → ∃ a b xs ys, vs = [.ref a, .ref b] ∧ SqT X.K H1 a xs ∧ SqT X.K H1 b ys) :
    wpAny (model X.prog X.w) X.A (eval (.Call (.Name "zip" p2) [e1, e2] [] pos2) X.env) Q X.xe s := by
  refine Call_ (ld_blt I hg hm PyProof.Rows.boot_zip (PyProof.Rows.callWith_type1 (thn (ha.run pos2 pins s σ H _ I h) fun us s1 ⟨vs, H1, I1, r1, q1⟩ => ?_) hs hpl))
  obtain ⟨a, b, xs, ys, ex, ha1, hb1⟩ := hk H1 vs q1
  subst ex
  cases r1 with
  | cons r rr =>
    cases rr with
    | cons r' rr =>
      cases rr
      cases r
      cases r'
      obtain ⟨its1, rv1, p1, hz1⟩ := I1.tuple ha1
      obtain ⟨its2, rv2, p2', hz2⟩ := I1.tuple hb1
      have p1 : s1.heap.IsTuple a its1.toArray := p1
      have p2' : s1.heap.IsTuple b its2.toArray := p2'
      have la : a < s1.heap.objs.size := by obtain ⟨o, ho, _⟩ := id p1; exact Heap.lt_size ho
      have lb : b < s1.heap.objs.size := by obtain ⟨o, ho, _⟩ := id p2'; exact Heap.lt_size ho
      refine zip_begins2 (begins_tuple a its1.toArray) (begins_tuple b its2.toArray) p1 p2' fun h' hz hTI hTO g1 g2 hsz hk => ?_
      refine hQ { s1 with heap := h' } H1 _ q1 a b xs ys rfl ha1 hb1 _ its1 its2 ⟨I1.kept (t' := s1.toks) hk, rv1, rv2, hz1, ⟨s1.heap.objs.size, rfl, la, lb, Nat.le_of_eq hsz.symm, hz, ⟨_, _, hTO⟩, hTI, ⟨⟨_, g1, rfl, rfl⟩, p1.at fun o e => hk _ o e⟩, ⟨⟨_, g2, rfl, rfl⟩, p2'.at fun o e => hk _ o e⟩, fun H c hc hn => I1.fpOk hc hn⟩, fun c hc _ => I1.hok.fresh (Nat.le_of_add_le_add_right hc)⟩
theorem pe_tupZip (hcalm : X.calm = true) (hg : Gl X "tuple") (hm : X.mg "tuple" = none) (hgz : Gl X "zip") (hmz : X.mg "zip" = none) (ha : PA X [e1, e2] ta)
    (hs : starEach [e1, e2] X.env = (false, eval e1 X.env) :: starEach [e2] X.env := by rfl) (hpl : (backTo pos2 (starEach [e2] X.env)).any (·.1) = false := by rfl)
    (he : starEach [.Call (.Name "zip" p2) [e1, e2] [] pos2] X.env = (false, eval (.Call (.Name "zip" p2) [e1, e2] [] pos2) X.env) :: starEach [] X.env := by rfl) :
    PE X (.Call (.Name "tuple" p) [.Call (.Name "zip" p2) [e1, e2] [] pos2] [] pos) (tZip X.K .tup ta) := by
  refine ⟨fun pins s σ H Q I h => Call_ (ld_blt I hg hm PyProof.Rows.boot_tuple (PyProof.Rows.callWith_type1 ?_ he (by rfl)))⟩
  rw [he]
  refine Calls.spliced_cons (zip_made hgz hmz ha I h hs hpl (fun s' H1 vs q a b xs ys ev ha1 hb1 z its1 its2 B => ?_) fun H1 vs ⟨a, b, xs, ys, e, h1, h2, _⟩ => ⟨a, b, xs, ys, e, h1, h2⟩)
  obtain ⟨a', b', xs', ys', e', h1', h2', q⟩ := q
  rw [ev] at e'
  cases e'
  refine Calls.spliced_nil (zb_tuple (B.inv.ok.hd hcalm) B fun s2 as H2 T t hn I2 => ⟨.ref T, _, I2, rfl, ?_⟩)
  cases B.inv.tuple_inj ha1 h1'
  cases B.inv.tuple_inj hb1 h2'
  exact q as H2 T t hn
theorem pe_lstZip (hcalm : X.calm = true) (hg : Gl X "list") (hm : X.mg "list" = none) (hgz : Gl X "zip") (hmz : X.mg "zip" = none) (ha : PA X [e1, e2] ta)
    (hs : starEach [e1, e2] X.env = (false, eval e1 X.env) :: starEach [e2] X.env := by rfl) (hpl : (backTo pos2 (starEach [e2] X.env)).any (·.1) = false := by rfl)
    (he : starEach [.Call (.Name "zip" p2) [e1, e2] [] pos2] X.env = (false, eval (.Call (.Name "zip" p2) [e1, e2] [] pos2) X.env) :: starEach [] X.env := by rfl) :
    PE X (.Call (.Name "list" p) [.Call (.Name "zip" p2) [e1, e2] [] pos2] [] pos) (tZip X.K .lst ta) := by
  refine ⟨fun pins s σ H Q I h => Call_ (ld_blt I hg hm PyProof.Rows.boot_list (PyProof.Rows.callWith_type1 ?_ he (by rfl)))⟩
  rw [he]
  refine Calls.spliced_cons (zip_made hgz hmz ha I h hs hpl (fun s' H1 vs q a b xs ys ev ha1 hb1 z its1 its2 B => ?_) fun H1 vs ⟨a, b, xs, ys, e, h1, h2, _⟩ => ⟨a, b, xs, ys, e, h1, h2⟩)
  obtain ⟨a', b', xs', ys', e', h1', h2', q⟩ := q
  rw [ev] at e'
  cases e'
  refine Calls.spliced_nil (zb_list (B.inv.ok.hd hcalm) B fun s2 as H2 T t hn I2 => ⟨.ref T, _, I2, rfl, ?_⟩)
  cases B.inv.tuple_inj ha1 h1'
  cases B.inv.tuple_inj hb1 h2'
  exact q as H2 T t hn
end
end DZ
namespace DL
open PySem PySem.Spec PyProof.Rows L2 DZ
variable [Tabs]
/-! ### tuple(zip(xs, ys)), list(zip(xs, ys)) -/
def zipD (xs ys : List PyData) : List PyData := (xs.zip ys).map fun p => .tuple [p.1, p.2]
inductive PRel (K : PySem.W.Frag) (F : Sto) (H : Hp) : List (V × V) → List (PyData × PyData) → Prop
  | nil : PRel K F H [] []
  | cons {p d ps ds} : Dv K F H p.1 d.1 → Dv K F H p.2 d.2 → PRel K F H ps ds → PRel K F H (p :: ps) (d :: ds)
theorem PRel.snoc {K : PySem.W.Frag} {F : Sto} {H : Hp} : ∀ {ps : List (V × V)} {p : V × V} {ds : List (PyData × PyData)}, PRel K F H (ps ++ [p]) ds → ∃ ds' d, ds = ds' ++ [d] ∧ PRel K F H ps ds' ∧ Dv K F H p.1 d.1 ∧ Dv K F H p.2 d.2
  | [], _, _, .cons a b .nil => ⟨[], _, rfl, .nil, a, b⟩
  | _ :: _, _, _, .cons a b r => by
    obtain ⟨ds', d, e, r', q⟩ := PRel.snoc r
    exact ⟨_ :: ds', d, by rw [e]; rfl, .cons a b r', q⟩
theorem PRel.zip {K : PySem.W.Frag} {F : Sto} {H : Hp} : ∀ {xs ys : List V} {ds es : List PyData}, Dvs K F H xs ds → Dvs K F H ys es → PRel K F H (xs.zip ys) (ds.zip es)
  | [], _, _, _, .nil, _ => by rw [List.zip_nil_left, List.zip_nil_left]; exact .nil
  | _ :: _, [], _, _, .cons _ _, .nil => .nil
  | _ :: _, _ :: _, _, _, .cons a r, .cons b q => .cons a b (PRel.zip r q)
theorem tells_data {K : PySem.W.Frag} {st hid : Sto} {H H' : Hp} {ps : List (V × V)} {as : List Addr} (t : Tells H ps as H') (S : Sx K st hid H) : ∀ {ds : List (PyData × PyData)}, PRel K (jn st hid) H ps ds →
    FrX st hid H st H' ∧ Sx K st hid H' ∧ Dvs K (jn st hid) H' (as.map V.ref) (ds.map fun p => .tuple [p.1, p.2]) := by
  induction t with
  | nil =>
    intro ds r
    cases r
    exact ⟨Fr.refl _ _, S, .nil⟩
  | @snoc _ _ _ pq _ t hT ih =>
    intro ds r
    obtain ⟨ds', d, rfl, r', r1, r2⟩ := r.snoc
    obtain ⟨F1, S1, q⟩ := ih r'
    have F2 := fr_new (st := jn st hid) (o := .tup [pq.1, pq.2]) hT
    refine ⟨Fr.trans F1 F2, S1.new hT, ?_⟩
    rw [List.map_append, List.map_append]
    refine (q.mono F2 S1.sr).append (.cons (.tup (.inl (.inl upd_same)) (.cons ((r1.mono F1 S.sr).mono F2 S1.sr) (.cons ((r2.mono F1 S.sr).mono F2 S1.sr) .nil))) .nil)
def dTupZip (t : TAd) : TEd := fun e st Q => t e st fun ds st1 => match ds with
  | [.d (.tuple xs), .d (.tuple ys)] => Q (.d (.tuple (zipD xs ys))) st1
  | _ => False
def dLstZip (t : TAd) : TEd := fun e st Q => t e st fun ds st1 => match ds with
  | [.d (.tuple xs), .d (.tuple ys)] => mkL ((zipD xs ys).map D.d) st1 Q
  | _ => False
theorem dvsD_of {K : PySem.W.Frag} {F : Sto} {H : Hp} : ∀ {vs : List V} {xs : List PyData}, Dvs K F H vs xs → DvsD K F H vs (xs.map D.d)
  | _, _, .nil => .nil
  | _, _, .cons a r => .cons (.d a) (dvsD_of r)
section
variable {X : Cx} {e1 e2 : Expr} {t : TAd} {p p2 pos pos2 : Pos}
theorem pd_tupZip (hcalm : X.calm = true) (hg : Gl X "tuple") (hm : X.mg "tuple" = none) (hgz : Gl X "zip") (hmz : X.mg "zip" = none) (ha : PDA X [e1, e2] t)
    (hs : starEach [e1, e2] X.env = (false, eval e1 X.env) :: starEach [e2] X.env := by rfl) (hpl : (backTo pos2 (starEach [e2] X.env)).any (·.1) = false := by rfl)
    (he : starEach [.Call (.Name "zip" p2) [e1, e2] [] pos2] X.env = (false, eval (.Call (.Name "zip" p2) [e1, e2] [] pos2) X.env) :: starEach [] X.env := by rfl) :
    PD X (.Call (.Name "tuple" p) [.Call (.Name "zip" p2) [e1, e2] [] pos2] [] pos) (dTupZip t) :=
  PE.imp (pe_tupZip hcalm hg hm hgz hmz ha hs hpl he) fun σ H Q ⟨e, st, hid, Qd, re, S, h, k⟩ => ⟨e, st, hid, _, re, S, h, fun vs H1 ds st1 F1 S1 r q => by
    split at q
    · cases r with
      | cons r1 r =>
        cases r with
        | cons r2 r =>
          cases r
          obtain ⟨a, xs, rfl, h1, q1⟩ := tup_at r1
          obtain ⟨b, ys, rfl, h2, q2⟩ := tup_at r2
          refine ⟨a, b, xs, ys, rfl, h1, h2, fun as H2 T tl hT => ?_⟩
          obtain ⟨F2, S2, r3⟩ := tells_data tl S1 (PRel.zip q1 q2)
          exact ((k.mono F1).mono F2).new S2 hT (.d (.tup (.inl (.inl upd_same)) (r3.mono (fr_new hT) S2.sr))) q
    · exact q.elim⟩
theorem pd_lstZip (hcalm : X.calm = true) (hg : Gl X "list") (hm : X.mg "list" = none) (hgz : Gl X "zip") (hmz : X.mg "zip" = none) (ha : PDA X [e1, e2] t)
    (hs : starEach [e1, e2] X.env = (false, eval e1 X.env) :: starEach [e2] X.env := by rfl) (hpl : (backTo pos2 (starEach [e2] X.env)).any (·.1) = false := by rfl)
    (he : starEach [.Call (.Name "zip" p2) [e1, e2] [] pos2] X.env = (false, eval (.Call (.Name "zip" p2) [e1, e2] [] pos2) X.env) :: starEach [] X.env := by rfl) :
    PD X (.Call (.Name "list" p) [.Call (.Name "zip" p2) [e1, e2] [] pos2] [] pos) (dLstZip t) :=
  PE.imp (pe_lstZip hcalm hg hm hgz hmz ha hs hpl he) fun σ H Q ⟨e, st, hid, Qd, re, S, h, k⟩ => ⟨e, st, hid, _, re, S, h, fun vs H1 ds st1 F1 S1 r q => by
    split at q
    · cases r with
      | cons r1 r =>
        cases r with
        | cons r2 r =>
          cases r
          obtain ⟨a, xs, rfl, h1, q1⟩ := tup_at r1
          obtain ⟨b, ys, rfl, h2, q2⟩ := tup_at r2
          refine ⟨a, b, xs, ys, rfl, h1, h2, fun as H2 T tl hT => ?_⟩
          obtain ⟨F2, S2, r3⟩ := tells_data tl S1 (PRel.zip q1 q2)
          exact mkL_go q S2 hT (dvsD_of r3) ((k.mono F1).mono F2)
    · exact q.elim⟩
end
end DL
namespace DL
open PySem PySem.Spec PyProof.Rows L2
variable [Tabs]
/-! ### [elt for x in a for y in b] -/
def dLc2 (M : List D → Sto → Kd → Prop) (ti : TId) (i : Nat) (ti1 : TId) (i1 : Nat) (te : TEd) : TEd := fun e st Q => ti e st fun it st1 => ∃ W : Nat → List D → Sto → Prop, W 0 [] st1 ∧ ∀ j acc st2, W j acc st2 → it.at st2 ∧ (it.xs.length ≤ j → M acc st2 Q) ∧
  ∀ d, it.xs[j]? = some d → ti1 ((e.set i1 none).set i (some d)) st2 fun it1 st3 => ∃ W1 : Nat → List D → Sto → Prop, W1 0 acc st3 ∧ ∀ j1 acc1 st4, W1 j1 acc1 st4 → it1.at st4 ∧ (it1.xs.length ≤ j1 → W (j + 1) acc1 st4) ∧
    ∀ d1, it1.xs[j1]? = some d1 → te (((e.set i1 none).set i (some d)).set i1 (some d1)) st4 fun y st5 => acc1.length < sizeLine ∧ W1 (j1 + 1) (acc1 ++ [y]) st5
theorem wipe2 {α : Type} (σ : List (Option α)) (i i1 : Nat) (x : Option α) : (((((σ.set i1 none).set i none).set i x).set i1 none).set i none) = (σ.set i1 none).set i none := by
  by_cases e : i = i1
  · subst e
    simp only [List.set_set]
  · rw [List.set_set, List.set_comm _ _ e, List.set_set, List.set_set]
theorem RE.none1 {K : PySem.W.Frag} {F : Sto} {H : Hp} {σ : L2.St} {e : Ed} (re : RE K F H σ e) (i : Nat) : RE K F H (σ.set i none) (e.set i none) := by
  refine ⟨by rw [List.length_set, List.length_set]; exact re.1, fun j x h => ?_⟩
  by_cases ej : i = j
  · subst ej
    rw [List.getElem?_set] at h
    simp at h
  · rw [List.getElem?_set_ne ej] at h ⊢
    exact re.at_ j x h
theorem pd_lc2 {X : Cx} {M : List D → Sto → Kd → Prop} (hM : ∀ ds st Q, M ds st Q → mkL ds st Q) {elt iter iter1 : Expr} {scope : Scope} {y y1 : Str} {i i1 : Nat} {py py1 pos : Pos} {ti ti1 : TId} {te : TEd} (hc : X.calm = true) (hN : X.N.Nodup) (hi : PDI X (.Name y py) iter ti) (ok : BlkOk X.N X.env.scope scope [(y, i), (y1, i1)])
    (hg : ∀ (s : Shared) (H : Hp) (C : Addr) (cl : List (Str × Addr)) (fp : List Addr), PG (X.blk s H scope (compEnvC scope cl C X.env) fp) (.Name y py) (gName i))
    (hi1 : ∀ (s : Shared) (H : Hp) (C : Addr) (cl : List (Str × Addr)) (fp : List Addr), PDI (X.blk s H scope (compEnvC scope cl C X.env) fp) (.Name y1 py1) iter1 ti1)
    (hg1 : ∀ (s : Shared) (H : Hp) (C : Addr) (cl : List (Str × Addr)) (fp : List Addr), PG (X.blk s H scope (compEnvC scope cl C X.env) fp) (.Name y1 py1) (gName i1))
    (he : ∀ (s : Shared) (H : Hp) (C : Addr) (cl : List (Str × Addr)) (fp : List Addr), PD (X.blk s H scope (compEnvC scope cl C X.env) fp) elt te) (hs : ∀ x, foldedSetIterable iter X.env x = pure x := by intro _; rfl) (hs1 : ∀ env x, foldedSetIterable iter1 env x = pure x := by intro _ _; rfl) :
    PD X (.ListComp elt [⟨.Name y py, iter, [], 0⟩, ⟨.Name y1 py1, iter1, [], 0⟩] scope pos) (dLc2 M ti i ti1 i1 te) :=
  PE.imp (pe_lc2 (own := [(y, i), (y1, i1)]) (vs1 := [i1]) (wi := upI X.K ti) (g := gName i) (tt := upT X.K dYes) (wi1 := upI X.K ti1) (g1 := gName i1) (tt1 := upT X.K dYes) (te := up X.K te) hc hN hi ok (by simp) hg (fun s H C cl fp => pdts_nil) hi1 hg1 (fun s H C cl fp => pdts_nil) he hs hs1) fun σ H Q ⟨e, st, hid, Qd, re, S, h, k⟩ => by
    refine ⟨e, st, hid, _, re, S, h, fun J H1 it st1 F1 S1 ok1 at1 ⟨W, w0, turn⟩ p hp => ?_⟩
    have n1 := jn_free (S1.sr.free0 hp)
    have hn : hid p = none := n1.2
    refine ⟨fun j m H2 => m = it.xs.length - j ∧ ∃ acc st2, W j acc st2 ∧ Sx X.K (put st2 p acc) hid H2 ∧ st2 p = none ∧ Fr (jn (put st1 p []) hid) (upd H1 p (.lst [])) (jn (put st2 p acc) hid) H2, ⟨it.xs.length, by simp, [], st1, w0, S1.own hp .nil, n1.1, Fr.refl _ _⟩, ?_⟩
    rintro j m H2 ⟨rfl, acc, st2, w2, S2, n2, F2⟩
    obtain ⟨at2, done, go⟩ := turn j acc st2 w2
    have eqF : jn st2 (put hid p acc) = jn (put st2 p acc) hid := jn_swap n2
    have F12 : Fr (jn st1 hid) H1 (jn (put st2 p acc) hid) H2 := Fr.trans (fx_own hp) F2
    have F02 : Fr (jn st hid) H (jn (put st2 p acc) hid) H2 := Fr.trans F1 F12
    have off : ∀ {st2 : Sto} {acc : List D} {it : ItD}, st2 p = none → it.at st2 → it.at (jn (put st2 p acc) hid) := fun {st2 acc it} n2 at2 a ds z => by
      have e1 := at2 a ds z
      have ne : a ≠ p := fun z' => by
        rw [z', n2] at e1
        cases e1
      exact jn_some (by rw [put_ne ne]; exact e1)
    have It := ok1 j _ H2 F12 S2.sr (off n2 at2)
    by_cases hj : it.xs.length ≤ j
    · refine .inl ⟨It.2 hj, ?_⟩
      obtain ⟨vs, hv, rv⟩ := S2.at_ put_same
      rcases hM _ _ _ (done hj) with ⟨xs, ep, q⟩ | q
      · have ea := pures_eq ep
        subst ea
        obtain ⟨Sc, Fc, fc⟩ := S2.frz put_same
        have ec : cut (put st2 p (xs.map D.d)) p = st2 := by
          funext b
          by_cases eb : b = p
          · rw [eb, cut_same, n2]
          · rw [cut_ne eb, put_ne eb]
        rw [ec] at Sc Fc fc
        exact k _ H2 _ st2 (Fr.trans F02 Fc) Sc (.d (.lst hv fc ((Dvs.of rv).mono Fc S2.sr))) q
      · exact k _ H2 _ _ F02 S2 (.own p) (q p n2)
    · have hlt : j < it.xs.length := Nat.lt_of_not_le hj
      have ed : it.xs[j]? = some it.xs[j] := List.getElem?_eq_getElem hlt
      obtain ⟨g1, g2⟩ := It.1 _ ed
      refine .inr ⟨g1, fun H' => ∃ acc' st', W (j + 1) acc' st' ∧ Sx X.K (put st' p acc') hid H' ∧ st' p = none ∧ Fr (jn (put st1 p []) hid) (upd H1 p (.lst [])) (jn (put st' p acc') hid) H', fun H' ⟨acc', st', h1, h2, h3, h4⟩ => ⟨it.xs.length - (j + 1), by omega, rfl, acc', st', h1, h2, h3, h4⟩, fun x H3 hy => ?_⟩
      obtain ⟨F23, S3r, rx⟩ := g2 x H3 hy
      have S3 : Sx X.K (put st2 p acc) hid H3 := S2.go F23 S3r
      have S3h := S3.hide n2
      have F03 := Fr.trans F02 F23
      have reX : RE X.K (jn st2 (put hid p acc)) H3 ((wipe σ [i, i1]).set i (some x)) ((e.set i1 none).set i (some it.xs[j])) := by
        rw [eqF]
        show RE X.K _ H3 (((σ.set i1 none).set i none).set i (some x)) _
        rw [set_none_set]
        exact (((re.mono F03 S.sr).none1 i1)).set rx
      show wipe ((wipe σ [i, i1]).set i (some x)) [i, i1] = wipe σ [i, i1] ∧ upT X.K dYes ((wipe σ [i, i1]).set i (some x)) H3 _
      refine ⟨wipe2 σ i i1 (some x), ⟨_, st2, put hid p acc, _, reX, S3h, (show dYes _ _ (fun b st3 => b = true ∧ st3 = st2) from ⟨rfl, rfl⟩), fun b H4 st4 F4 S4 ⟨q4, q5⟩ => ?_⟩⟩
      subst q4 q5
      refine iteT ?_
      refine ⟨_, st4, put hid p acc, _, reX.mono F4 S3h.sr, S4, go _ ed, fun J1 H5 it1 st5 F5 S5 ok5 at5 ⟨W1, w10, turn1⟩ => ?_⟩
      obtain ⟨S5', n5⟩ := S5.shown hn
      have eq5 : jn st5 (put hid p acc) = jn (put st5 p acc) hid := jn_swap n5
      have F3X : Fr (jn (put st1 p []) hid) (upd H1 p (.lst [])) (jn st4 (put hid p acc)) H4 := by
        have F4' : Fr (jn st4 (put hid p acc)) H3 (jn st4 (put hid p acc)) H4 := F4
        rw [eqF] at F4' ⊢
        exact Fr.trans F2 (Fr.trans F23 F4')
      have F15 : Fr (jn (put st1 p []) hid) (upd H1 p (.lst [])) (jn (put st5 p acc) hid) H5 := by
        rw [← eq5]
        exact Fr.trans F3X F5
      refine ⟨fun j1 m H6 => m = it1.xs.length - j1 ∧ ∃ acc1 st6, W1 j1 acc1 st6 ∧ Sx X.K (put st6 p acc1) hid H6 ∧ st6 p = none ∧ Fr (jn (put st5 p acc) hid) H5 (jn (put st6 p acc1) hid) H6, ⟨it1.xs.length, by simp, acc, st5, w10, S5', n5, Fr.refl _ _⟩, ?_⟩
      rintro j1 m1 H6 ⟨rfl, acc1, st6, w6, S6, n6, F6⟩
      obtain ⟨at6, done1, go1⟩ := turn1 j1 acc1 st6 w6
      have It1 := ok5 j1 _ H6 (by rw [eq5]; exact F6) S6.sr (off n6 at6)
      have F16 := Fr.trans F15 F6
      by_cases hj1 : it1.xs.length ≤ j1
      · exact .inl ⟨It1.2 hj1, acc1, st6, done1 hj1, S6, n6, F16⟩
      · have hlt1 : j1 < it1.xs.length := Nat.lt_of_not_le hj1
        have ed1 : it1.xs[j1]? = some it1.xs[j1] := List.getElem?_eq_getElem hlt1
        obtain ⟨g1', g2'⟩ := It1.1 _ ed1
        refine .inr ⟨g1', fun H' => ∃ acc' st', W1 (j1 + 1) acc' st' ∧ Sx X.K (put st' p acc') hid H' ∧ st' p = none ∧ Fr (jn (put st5 p acc) hid) H5 (jn (put st' p acc') hid) H', fun H' ⟨acc', st', h1, h2, h3, h4⟩ => ⟨it1.xs.length - (j1 + 1), by omega, rfl, acc', st', h1, h2, h3, h4⟩, fun x1 H7 hy1 => ?_⟩
        obtain ⟨F67, S7r, rx1⟩ := g2' x1 H7 hy1
        have S7 : Sx X.K (put st6 p acc1) hid H7 := S6.go F67 S7r
        have S7h := S7.hide n6
        have eq6 : jn st6 (put hid p acc1) = jn (put st6 p acc1) hid := jn_swap n6
        have F57 : Fr (jn (put st5 p acc) hid) H5 (jn (put st6 p acc1) hid) H7 := Fr.trans F6 F67
        have S3x : SR X.K (jn st4 (put hid p acc)) H4 := S4.sr
        have re1 : RE X.K (jn (put st6 p acc1) hid) H7 ((wipe σ [i, i1]).set i (some x)) ((e.set i1 none).set i (some it.xs[j])) := by
          have r4 := (reX.mono F4 S3h.sr).mono F5 S4.sr
          rw [eq5] at r4
          exact r4.mono F57 S5'.sr
        have reY : RE X.K (jn st6 (put hid p acc1)) H7 ((wipe ((wipe σ [i, i1]).set i (some x)) [i1]).set i1 (some x1)) (((e.set i1 none).set i (some it.xs[j])).set i1 (some it1.xs[j1])) := by
          rw [eq6]
          show RE X.K _ H7 ((((wipe σ [i, i1]).set i (some x)).set i1 none).set i1 (some x1)) _
          rw [set_none_set]
          exact re1.set rx1
        show wipe ((wipe ((wipe σ [i, i1]).set i (some x)) [i1]).set i1 (some x1)) [i1] = wipe ((wipe σ [i, i1]).set i (some x)) [i1] ∧ upT X.K dYes ((wipe ((wipe σ [i, i1]).set i (some x)) [i1]).set i1 (some x1)) H7 _
        refine ⟨by
          show (((((wipe σ [i, i1]).set i (some x)).set i1 none).set i1 (some x1)).set i1 none) = ((wipe σ [i, i1]).set i (some x)).set i1 none
          rw [List.set_set, List.set_set], ⟨_, st6, put hid p acc1, _, reY, S7h, (show dYes _ _ (fun b st3 => b = true ∧ st3 = st6) from ⟨rfl, rfl⟩), fun b H8 st8 F8 S8 ⟨q8, q9⟩ => ?_⟩⟩
        subst q8 q9
        refine iteT ?_
        refine ⟨_, st8, put hid p acc1, _, reY.mono F8 S7h.sr, S8, go1 _ ed1, fun v H9 d st9 F9 S9 r9 ⟨hz, w9⟩ => ?_⟩
        obtain ⟨S9', n9⟩ := S9.shown hn
        obtain ⟨vs, hv, rv⟩ := S9'.at_ put_same
        rw [jn_swap n9] at r9
        refine ⟨vs, hv, by rw [Paired.length rv]; exact hz, acc1 ++ [d], st9, w9, ?_, n9, ?_⟩
        · have := S9'.store (es := acc1 ++ [d]) put_same (DvsD.snoc rv r9)
          rw [put_put] at this
          exact this
        · have Fa : Fr (jn (put st5 p acc) hid) H5 (jn (put st9 p acc1) hid) H9 := by
            rw [← jn_swap n9]
            refine Fr.trans F57 ?_
            rw [← eq6]
            exact Fr.trans F8 F9
          exact Fr.late Fa (by rw [jn_some put_same]; exact fun z => nomatch z)
end DL
namespace DL
open PySem PySem.Spec PyProof.Rows L2 DG
variable [Tabs]
/-! ### defs with generator expressions: their code objects -/
structure HasT (K : PySem.W.Frag) (mg : Str → Option Value) (base : Heap) (x : Str) (st : Stmt) : Prop where
  ex : ∃ f fd c PT, mg x = some (.ref f) ∧ Fun K x x st f fd ∧ fd.code = .ref c ∧ PT ∈ (Tabs.tp : List Addr) ∧ GxR.TabB base mg c PT
section
variable {P : Program} {w : World} {K : PySem.W.Frag} {mg : Str → Option Value} {base : Heap}
theorem fnD_okT {x qual : Str} {st : Stmt} {f c : Addr} {fd : FuncData} {N ps : List Str} {k : Nat} {sp : SpD} {t : TSd} (F : Fun K x qual st f fd) (hc : fd.code = .ref c) (S : FnScope N ps (defScope st)) (len : ∀ ds s Q, sp ds s Q → ds.length = ps.length)
    (hbody : ∀ (A : Around) (outer : List Env) (s : Shared) (H : Hp) (E : XK), A.guards = some [] → Room k (A.deeper (envOfC qual (defScope st) s.heap.objs.size f (.ref c))) → PDSs (cxD P w K mg base N qual (defScope st) f (.ref c) A outer s H E) (defBody st) t)
    (hsp : ∀ ds s Q, sp ds s Q → t { nx := fun _ s' => Q (.d .none) s', rt := Q } (startD N ds) s) : FnD P w K mg base (k + 1) f fd ps sp := by
  obtain ⟨oc, od, kV, doc, pm, an, cd, ct, osl, rfl, lk, hcd⟩ := F.ex
  have ec : cd = .ref c := hc
  subst ec
  have lenV : ∀ vs H Q E, upSp K sp vs H Q E → vs.length = ps.length := fun vs H Q E ⟨ds, s, hid, Qd, r, _, h, _⟩ => (Paired.length r).trans (len ds s Qd h)
  refine ⟨lenV, fun A outer s H args us vs Q E hg hr e0 hb r hq => ?_⟩
  have KX : K.In s.heap := e0.mod.kin.keeps fun b o e => (e0.bs b o e).1
  have lim : s.heap.NoLimit := e0.mod.nolimit.keeps fun b o e => (e0.bs b o e).1
  have hkind : ∀ y ∈ ps.zip us, (defScope st).names.lookup y.1 = some .local ∨ ((defScope st).names.lookup y.1 = some .cell ∧ ((cellsFrom (s.heap.objs.size + 1) (defScope st).names []).lookup y.1).isSome = true) := fun y hy =>
    (S.par y.1 (List.of_mem_zip (show (y.1, y.2) ∈ ps.zip us from hy)).1).elim .inl fun q => .inr ⟨q, PySem.W.cellsFrom_some _ _ _ (.inl q)⟩
  refine codeAny_call_function hr.depth (KX _ _ lk) rfl S.co S.gen rfl (PySem.W.codeRec_of KX hcd) (hb _ _ _ _ (wpAny_newFunctionEnv_cells S.kind hkind fun env he s1 x1 => ?_))
  subst he
  refine ⟨lim.keeps x1.toInCall.keep, codeAny_func ?_⟩
  have ht := (hbody A outer s H E hg (hr.deeper _)).nox
  have I := inv_start (CX := CX0) (K := K) (mg := mg) (base := base) (E := E) S hr.hd e0 (lenV _ _ _ _ hq) r x1
  obtain ⟨ds, sd, hid, Qd, rd, Sd, hd, gd⟩ := hq
  have rdy : upS K t { nx := fun _ H' => Q .non H', rt := Q } (L2.start N vs) H := by
    refine ⟨startD N ds, sd, hid, { nx := fun _ s' => Qd (.d .none) s', rt := Qd }, re_start rd, Sd, hsp ds sd Qd hd, ?_, gd, ?_, ?_⟩
    · exact fun _ H' _ st' F' S' _ q => gd .non H' _ st' F' S' (.d .non) q
    · exact fun _ _ _ _ _ _ _ q => q.elim
    · exact fun _ _ _ _ _ _ _ q => q.elim
  refine wpAny_mono (ht.run [] s1 (L2.start N vs) H _ I rdy) (fun fl s' hs => ?_) fun e s' hs => hs
  cases fl with
  | ret u =>
    obtain ⟨v, σ', H', J, rv, q⟩ := hs
    exact ⟨v, H', J.os, J.bare, J.base, J.hok, rv, q⟩
  | next =>
    obtain ⟨σ', H', J, q⟩ := hs
    exact ⟨.non, H', J.os, J.bare, J.base, J.hok, rfl, q⟩
  | brk =>
    obtain ⟨_, _, _, q⟩ := hs
    exact False.elim q
  | cont =>
    obtain ⟨_, _, _, q⟩ := hs
    exact False.elim q
theorem can_ofT {x : Str} {st : Stmt} {N ps : List Str} {k : Nat} {sp : SpD} {t : TSd} (F : HasT K mg base x st) (S : FnScope N ps (defScope st)) (len : ∀ ds s Q, sp ds s Q → ds.length = ps.length)
    (bind : ∀ (kV doc pm : Value) (an : Option Addr) (cdv ct : Value) (us : List Value), us.length = ps.length → bindArgs (PySem.W.fnOf x x (defArgs st) (defBody st) (defScope st) .none kV doc pm an cdv ct) ⟨us, []⟩ = pure (ps.zip us))
    (hbody : ∀ (f c PT : Addr), PT ∈ (Tabs.tp : List Addr) → GxR.TabB base mg c PT → ∀ (A : Around) (outer : List Env) (s : Shared) (H : Hp) (E : XK), A.guards = some [] → Room k (A.deeper (envOfC x (defScope st) s.heap.objs.size f (.ref c))) → PDSs (cxD P w K mg base N x (defScope st) f (.ref c) A outer s H E) (defBody st) t)
    (hsp : ∀ ds s Q, sp ds s Q → t { nx := fun _ s' => Q (.d .none) s', rt := Q } (startD N ds) s) : Can P w K mg base (k + 1) x st ps sp := by
  obtain ⟨f, fd, c, PT, hm, F, hc, hP, TB⟩ := F.ex
  exact ⟨f, fd, fnD_okT F hc S len (hbody f c PT hP TB) hsp, hm, F, F.binds bind⟩
end
theorem gx_room {k : Nat} {A : Around} {e : Env} (r : Room (k + 1) A) : Room k (A.in1.in1.deeper e) :=
  ⟨r.hd, by have := r.dp; show A.depth + 1 + 3 * k + 5 < _; omega, by have := r.un; show A.units + 1 + 1 + 3 + 16 * k + 200 < _; omega⟩
def gscC (N : List Str) (sc scope : Scope) (x : Str) (fvs : List (Str × Nat)) : Bool :=
  decide (scope.kind = .function) && decide (scope.isCoroutine = false) && (scope.names.all fun y => decide (y.2 ≠ .cell)) && decide (scope.names.lookup (".0" : Str) = some NameKind.local) && decide (scope.names.lookup x = some .local) &&
    (scope.names.all fun y => decide (y.2 ≠ .free) || decide (sc.names.lookup y.1 = some .cell) || decide (sc.names.lookup y.1 = some .free)) && (fvs.all fun p => decide (scope.names.lookup p.1 = some .free) && decide (N[p.2]? = some p.1))
theorem gsc_by {X : Cx} {N : List Str} {sc scope : Scope} {x : Str} {fvs : List (Str × Nat)} (hN : X.N = N) (hs : X.env.scope = sc) (h : gscC N sc scope x fvs = true) : GSc X scope x fvs := by
  subst hs hN
  unfold gscC at h
  simp only [Bool.and_eq_true, Bool.or_eq_true, List.all_eq_true, decide_eq_true_eq] at h
  obtain ⟨⟨⟨⟨⟨⟨h1, h2⟩, h3⟩, h4⟩, h5⟩, h6⟩, h7⟩ := h
  refine ⟨h1, h2, h3, h4, h5, fun y hy e => ?_, h7⟩
  rcases h6 y hy with (q | q) | q
  · exact absurd e q
  · exact .inl q
  · exact .inr q
end DL
namespace LB
open PySem PySem.Spec PyProof.Rows L2 DL
abbrev N_is_whole : List Str := ["value"]
abbrev N_is_row : List Str := ["value", "low", "high"]
abbrev N_is_fraction : List Str := ["value"]
abbrev N_is_place : List Str := ["value"]
abbrev N_is_stretch : List Str := ["value"]
abbrev N_check_point : List Str := ["value"]
abbrev N_check_segment : List Str := ["value"]
abbrev N_sign : List Str := ["number"]
abbrev N_is_less : List Str := ["first", "second"]
abbrev N_is_ahead : List Str := ["first", "second"]
abbrev N_scaled : List Str := ["point", "x", "x_lower", "y", "y_lower", "w"]
abbrev N_crossed : List Str := ["first", "second"]
abbrev N_along : List Str := ["line", "triple"]
abbrev N_side_of : List Str := ["first", "second", "third"]
abbrev N_in_order : List Str := ["segment", "first", "second"]
abbrev N_lies_on : List Str := ["segment", "point", "low", "high"]
abbrev N_is_point : List Str := ["value"]
abbrev N_turn_of : List Str := ["point", "other", "third"]
abbrev N_is_on : List Str := ["segment", "point"]
abbrev N_spring : List Str := ["_law_script", "_law_turn", "_law_mixed", "_law_cell", "_law_own_here"]
abbrev N_draw : List Str := ["_law_spring_here", "_law_many", "_law_digit", "_law_seed"]
abbrev N_one_of : List Str := ["_law_spring_here", "_law_some"]
abbrev N_divisor : List Str := ["_law_one", "_law_two", "_law_far", "_law_rest"]
abbrev N_part : List Str := ["_law_top", "_law_base", "_law_far"]
abbrev N_place : List Str := ["_law_x", "_law_y", "_law_w", "_law_far"]
abbrev N_told : List Str := ["_law_place_here"]
abbrev N_own : List Str := ["_law_told_here", "_law_a", "_law_b", "_law_c", "_law_d"]
abbrev N_side : List Str := ["_law_p", "_law_q", "_law_r", "_law_high"]
abbrev N_l_is_less : List Str := ["_law_p", "_law_q"]
abbrev N_l_lies_on : List Str := ["_law_p", "_law_q", "_law_r", "_law_low", "_law_high"]
abbrev N_odd : List Str := ["_law_spring_here", "_law_nil", "_law_one", "_law_two", "_law_some"]
abbrev N_bent : List Str := ["_law_spring_here", "_law_thing", "_law_at", "_law_branch"]
abbrev N_l_is_whole : List Str := ["_law_thing"]
abbrev N_is_lot : List Str := ["_law_thing", "_law_low", "_law_high"]
abbrev N_l_is_fraction : List Str := ["_law_thing", "_law_each"]
abbrev N_is_told : List Str := ["_law_thing", "_law_each"]
abbrev N_l_sign : List Str := ["_law_whole"]
end LB
namespace LB
open PySem PySem.Spec PyProof.Rows L2 DL
abbrev I (i : Int) : D := .d (.int i)
abbrev Bo (b : Bool) : D := .d (.bool b)
def fr (a b : Int) : PyData := .tuple [.int a, .int b]
def tri (x y w : Int) : PyData := .tuple [.int x, .int y, .int w]
structure Pt where
  (a b c d : Int)
  deriving DecidableEq
def Pt.py (p : Pt) : PyData := .tuple [fr p.a p.b, fr p.c p.d]
def B (n : Nat) (i : Int) : Prop := i.natAbs < 2 ^ n
def gc (a b : Int) : Int := ((Nat.gcd a.natAbs b.natAbs : Nat) : Int)
structure Pt.Ok (p : Pt) : Prop where
  hb : 0 < p.b
  hd : 0 < p.d
  g1 : gc p.a p.b = 1
  g2 : gc p.c p.d = 1
  ba : B 1600 p.a
  bb : B 1600 p.b
  bc : B 1600 p.c
  bd : B 1600 p.d
structure Tr where
  (x y w : Int)
  deriving DecidableEq
def Tr.py (t : Tr) : PyData := tri t.x t.y t.w
structure Tr.Ok (n : Nat) (t : Tr) : Prop where
  hw : 0 < t.w
  bx : B n t.x
  by_ : B n t.y
  bw : B n t.w
def det (p q r : Tr) : Int := p.x * (q.y * r.w - r.y * q.w) - p.y * (q.x * r.w - r.x * q.w) + p.w * (q.x * r.y - r.x * q.y)
def sgn (n : Int) : Int := if n = 0 then 0 else if 0 < n then 1 else -1
/-- the spring: what is left of a great number, the mixed one, how often it was asked -/
def SprL (xs : List D) (n : Nat) : Prop := ∃ x y z : Int, xs = [I x, I y, I z] ∧ 0 ≤ y ∧ y < 2147483629 ∧ 0 ≤ z ∧ z ≤ n
theorem SprL.mono {xs : List D} {n m : Nat} (h : SprL xs n) (hm : n ≤ m) : SprL xs m := by
  obtain ⟨x, y, z, e, h1, h2, h3, h4⟩ := h
  exact ⟨x, y, z, e, h1, h2, h3, by omega⟩
/-- what asks the spring at most c times -/
def spS (c : Nat) (post : D → Prop) (p : Addr) (st : Sto) (Q : Kd) : Prop := ∃ n xs, st p = some xs ∧ SprL xs n ∧ n + c < 2 ^ 40 ∧ ∀ d xs', post d → SprL xs' (n + c) → Q d (put st p xs')
def sp_spring : SpD := fun ds st Q => match ds with
  | [.scr ns, .d (.int t)] => ns.length ≤ 63 ∧ 0 ≤ t ∧ t < 100 ∧ ∀ p xs, st p = none → SprL xs 0 → Q (.own p) (put st p xs)
  | _ => False
def sp_draw : SpD := fun ds st Q => match ds with
  | [.own p, .d (.int m)] => 0 < m ∧ m < 2 ^ 40 ∧ spS 1 (fun d => ∃ i, d = I i ∧ 0 ≤ i ∧ i < m) p st Q
  | _ => False
def sp_one_of : SpD := fun ds st Q => match ds with
  | [.own p, .d (.list xs)] => 0 < xs.length ∧ xs.length < 1000 ∧ spS 1 (fun d => ∃ x, d = .d x ∧ x ∈ xs) p st Q
  | [.own p, .d (.tuple xs)] => 0 < xs.length ∧ xs.length < 1000 ∧ spS 1 (fun d => ∃ x, d = .d x ∧ x ∈ xs) p st Q
  | _ => False
def sp_odd : SpD := fun ds st Q => match ds with
  | [.own p] => spS 1 (fun d => ∃ x, d = .d x) p st Q
  | _ => False
/-- data that may be bent: no dicts, no great numbers, k deep -/
def Plain : Nat → PyData → Prop
  | _, .int i => B 1000 i
  | _, .str _ => True
  | k + 1, .tuple xs => xs.length ≤ 1000 ∧ SeqAt.shaped (.tuple xs) = true ∧ ∀ x ∈ xs, Plain k x
  | _, _ => False
def sp_bentK (k : Nat) : SpD := fun ds st Q => match ds with
  | [.own p, .d x] => Plain k x ∧ spS (2 * k + 2) (fun d => ∃ x, d = .d x) p st Q
  | _ => False
def sp_bent : SpD := sp_bentK 2
def sp_divisor : SpD := fun ds st Q => match ds with
  | [.d (.int a), .d (.int b)] => Q (I (gc a b)) st
  | _ => False
def partD (t b : Int) : PyData := fr (t / gc t b) (b / gc t b)
def sp_part : SpD := fun ds st Q => match ds with
  | [.d (.int t), .d (.int b)] => 0 < b ∧ B 8000 t ∧ B 8000 b ∧ Q (.d (partD t b)) st
  | _ => False
def placeT (x y w : Int) : Tr := ⟨x / gc (gc x y) w, y / gc (gc x y) w, w / gc (gc x y) w⟩
def placeS (x y w : Int) : Tr := if 0 < w then placeT x y w else placeT (-x) (-y) (-w)
def sp_place : SpD := fun ds st Q => match ds with
  | [.d (.int x), .d (.int y), .d (.int w)] => w ≠ 0 ∧ B 8000 x ∧ B 8000 y ∧ B 8000 w ∧ Q (.d (placeS x y w).py) st
  | _ => False
def toldP (t : Tr) : Pt := ⟨t.x / gc t.x t.w, t.w / gc t.x t.w, t.y / gc t.y t.w, t.w / gc t.y t.w⟩
def ownT (p : Pt) : Tr := placeT (p.a * p.d) (p.c * p.b) (p.b * p.d)
/-! the program's own looks -/
def isW : PyData → Bool
  | .int _ => true
  | _ => false
def isRow (lo hi : Int) : PyData → Bool
  | .tuple xs => decide (lo ≤ xs.length) && decide ((xs.length : Int) ≤ hi)
  | _ => false
def isFr : PyData → Bool
  | .tuple [.int a, .int b] => decide (0 < b) && decide (gc a b = 1)
  | _ => false
def isPl : PyData → Bool
  | .tuple [p, q] => isFr p && isFr q
  | _ => false
def sp_is_whole : SpD := fun ds st Q => match ds with
  | [.d x] => Q (Bo (isW x)) st
  | _ => False
def sp_l_is_whole : SpD := sp_is_whole
def sp_is_row : SpD := fun ds st Q => match ds with
  | [.d x, .d (.int lo), .d (.int hi)] => Q (Bo (isRow lo hi x)) st
  | _ => False
def sp_is_lot : SpD := sp_is_row
def sp_is_fraction : SpD := fun ds st Q => match ds with
  | [.d x] => Q (Bo (isFr x)) st
  | _ => False
def sp_l_is_fraction : SpD := sp_is_fraction
def sp_is_place : SpD := fun ds st Q => match ds with
  | [.d x] => Q (Bo (isPl x)) st
  | _ => False
def sp_is_point : SpD := sp_is_place
def sp_is_told : SpD := sp_is_place
end LB
namespace LB
open PySem PySem.Spec PyProof.Rows L2 DL
def sp_told : SpD := fun ds st Q => match ds with
  | [.d (.tuple [.int x, .int y, .int w])] => Tr.Ok 1600 ⟨x, y, w⟩ ∧ Q (.d (toldP ⟨x, y, w⟩).py) st
  | _ => False
def sp_own : SpD := fun ds st Q => match ds with
  | [.d (.tuple [.tuple [.int a, .int b], .tuple [.int c, .int d]])] => 0 < b ∧ 0 < d ∧ B 1600 a ∧ B 1600 b ∧ B 1600 c ∧ B 1600 d ∧ Q (.d (ownT ⟨a, b, c, d⟩).py) st
  | _ => False
def sp_side : SpD := fun ds st Q => match ds with
  | [.d (.tuple [.int x, .int y, .int w]), .d (.tuple [.int x', .int y', .int w']), .d (.tuple [.int x'', .int y'', .int w''])] => (B 4000 x ∧ B 4000 y ∧ B 4000 w) ∧ (B 4000 x' ∧ B 4000 y' ∧ B 4000 w') ∧ (B 4000 x'' ∧ B 4000 y'' ∧ B 4000 w'') ∧ Q (I (det ⟨x, y, w⟩ ⟨x', y', w'⟩ ⟨x'', y'', w''⟩)) st
  | _ => False
def lessT (p q : Tr) : Bool := if p.x * q.w ≠ q.x * p.w then decide (p.x * q.w < q.x * p.w) else decide (p.y * q.w < q.y * p.w)
def sp_l_is_less : SpD := fun ds st Q => match ds with
  | [.d (.tuple [.int x, .int y, .int w]), .d (.tuple [.int x', .int y', .int w'])] => (B 4000 x ∧ B 4000 y ∧ B 4000 w) ∧ (B 4000 x' ∧ B 4000 y' ∧ B 4000 w') ∧ Q (Bo (lessT ⟨x, y, w⟩ ⟨x', y', w'⟩)) st
  | _ => False
def onT (p q r : Tr) : Bool := if det p q r ≠ 0 then false else if lessT p q then !lessT r p && !lessT q r else !lessT r q && !lessT p r
def sp_l_lies_on : SpD := fun ds st Q => match ds with
  | [.d (.tuple [.int x, .int y, .int w]), .d (.tuple [.int x', .int y', .int w']), .d (.tuple [.int x'', .int y'', .int w''])] => (B 4000 x ∧ B 4000 y ∧ B 4000 w) ∧ (B 4000 x' ∧ B 4000 y' ∧ B 4000 w') ∧ (B 4000 x'' ∧ B 4000 y'' ∧ B 4000 w'') ∧ Q (Bo (onT ⟨x, y, w⟩ ⟨x', y', w'⟩ ⟨x'', y'', w''⟩)) st
  | _ => False
def sp_l_sign : SpD := fun ds st Q => match ds with
  | [.d (.int n)] => Q (I (sgn n)) st
  | _ => False
def sp_sign : SpD := sp_l_sign
/-! the program's geometry -/
def scT (p : Pt) : Tr := ⟨p.a * (((Nat.lcm p.b.natAbs p.d.natAbs : Nat) : Int) / p.b), p.c * (((Nat.lcm p.b.natAbs p.d.natAbs : Nat) : Int) / p.d), ((Nat.lcm p.b.natAbs p.d.natAbs : Nat) : Int)⟩
def sp_scaled : SpD := fun ds st Q => match ds with
  | [.d (.tuple [.tuple [.int a, .int b], .tuple [.int c, .int d]])] => 0 < b ∧ 0 < d ∧ B 1600 a ∧ B 1600 b ∧ B 1600 c ∧ B 1600 d ∧ Q (.d (scT ⟨a, b, c, d⟩).py) st
  | _ => False
def crT (p q : Tr) : Tr := ⟨p.y * q.w - p.w * q.y, p.w * q.x - p.x * q.w, p.x * q.y - p.y * q.x⟩
def sp_crossed : SpD := fun ds st Q => match ds with
  | [.d (.tuple [.int x, .int y, .int w]), .d (.tuple [.int x', .int y', .int w'])] => (B 8000 x ∧ B 8000 y ∧ B 8000 w) ∧ (B 8000 x' ∧ B 8000 y' ∧ B 8000 w') ∧ Q (.d (crT ⟨x, y, w⟩ ⟨x', y', w'⟩).py) st
  | _ => False
def alT (l t : Tr) : Int := l.x * t.x + l.y * t.y + l.w * t.w
def sp_along : SpD := fun ds st Q => match ds with
  | [.d (.tuple [.int x, .int y, .int w]), .d (.tuple [.int x', .int y', .int w'])] => (B 20000 x ∧ B 20000 y ∧ B 20000 w) ∧ (B 20000 x' ∧ B 20000 y' ∧ B 20000 w') ∧ Q (I (alT ⟨x, y, w⟩ ⟨x', y', w'⟩)) st
  | _ => False
def sideP (p q r : Pt) : Int := sgn (alT (crT (scT p) (scT q)) (scT r))
/-- three points as arguments -/
def sp_side_of : SpD := fun ds st Q => ∃ p q r : Pt, ds = [.d p.py, .d q.py, .d r.py] ∧ p.Ok ∧ q.Ok ∧ r.Ok ∧ Q (I (sideP p q r)) st
def sp_turn_of : SpD := sp_side_of
def sp_is_less : SpD := fun ds st Q => match ds with
  | [.d (.tuple [.int a, .int b]), .d (.tuple [.int c, .int d])] => (B 1600 a ∧ B 1600 b ∧ B 1600 c ∧ B 1600 d) ∧ Q (Bo (decide (a * d < c * b))) st
  | _ => False
def ahead (p q : Pt) : Bool := if p.a = q.a ∧ p.b = q.b then decide (p.c * q.d < q.c * p.d) else decide (p.a * q.b < q.a * p.b)
def sp_is_ahead : SpD := fun ds st Q => ∃ p q : Pt, ds = [.d p.py, .d q.py] ∧ p.Ok ∧ q.Ok ∧ Q (Bo (ahead p q)) st
def sp_in_order : SpD := fun ds st Q => ∃ p q : Pt, ds = [.d (.tuple [p.py, q.py])] ∧ p.Ok ∧ q.Ok ∧ Q (.d (if ahead q p then .tuple [q.py, p.py] else .tuple [p.py, q.py])) st
def onP (p q r : Pt) : Bool := if sideP p q r ≠ 0 then false else if ahead q p then !ahead r q && !ahead p r else !ahead r p && !ahead q r
def sp_lies_on : SpD := fun ds st Q => ∃ p q r : Pt, ds = [.d (.tuple [p.py, q.py]), .d r.py] ∧ p.Ok ∧ q.Ok ∧ r.Ok ∧ Q (Bo (onP p q r)) st
def sp_is_on : SpD := fun ds st Q => ∃ p q r : Pt, ds = [.d (.tuple [p.py, q.py]), .d r.py] ∧ p.Ok ∧ q.Ok ∧ r.Ok ∧ p ≠ q ∧ Q (Bo (onP p q r)) st
def sp_is_stretch : SpD := fun ds st Q => ∃ p q : Pt, ds = [.d (.tuple [p.py, q.py])] ∧ p.Ok ∧ q.Ok ∧ p ≠ q ∧ Q (Bo true) st
def sp_check_point : SpD := fun ds st Q => ∃ p : Pt, ds = [.d p.py] ∧ p.Ok ∧ Q (.d .none) st
def sp_check_segment : SpD := fun ds st Q => ∃ p q : Pt, ds = [.d (.tuple [p.py, q.py])] ∧ p.Ok ∧ q.Ok ∧ p ≠ q ∧ Q (.d .none) st
end LB
namespace LB
open PySem PySem.Spec PyProof.Rows L2 DL
def b_is_whole : TSd := (dRet (dAnd (dIs "int" (dVar 0)) (dNot (dIs "bool" (dVar 0)))))
def b_is_row : TSd := (dRet (dAnd (dIs "tuple" (dVar 0)) (dChain rLeD rLeD (dVar 1) (dCall cLen (dCons (dVar 0) dNil)) (dVar 2))))
def b_is_fraction_1 : TSd := (dIfS (dOrT (dNotT (dTst (dFn0 sp_is_row (dCons (dVar 0) (dCons (dC (.int 2)) (dCons (dC (.int 2)) dNil)))))) (dOrT (dNotT (dTst (dFn0 sp_is_whole (dCons (dBin rIxD (dVar 0) (dC (.int 0))) dNil)))) (dNotT (dTst (dFn0 sp_is_whole (dCons (dBin rIxD (dVar 0) (dC (.int 1))) dNil)))))) (dRet (dC (.bool false))) dNext)
def b_is_fraction_2 : TSd := (dRet (dAnd (dBin rGtD (dBin rIxD (dVar 0) (dC (.int 1))) (dC (.int 0))) (dBin rEqV (dCall cGcd (dCons (dBin rIxD (dVar 0) (dC (.int 0))) (dCons (dBin rIxD (dVar 0) (dC (.int 1))) dNil))) (dC (.int 1)))))
def b_is_fraction : TSd := (dSeq b_is_fraction_1 b_is_fraction_2)
def b_is_place : TSd := (dRet (dAnd (dFn0 sp_is_row (dCons (dVar 0) (dCons (dC (.int 2)) (dCons (dC (.int 2)) dNil)))) (dAnd (dFn0 sp_is_fraction (dCons (dBin rIxD (dVar 0) (dC (.int 0))) dNil)) (dFn0 sp_is_fraction (dCons (dBin rIxD (dVar 0) (dC (.int 1))) dNil)))))
def b_is_stretch : TSd := (dRet (dAnd (dFn0 sp_is_row (dCons (dVar 0) (dCons (dC (.int 2)) (dCons (dC (.int 2)) dNil)))) (dAnd (dFn0 sp_is_place (dCons (dBin rIxD (dVar 0) (dC (.int 0))) dNil)) (dAnd (dFn0 sp_is_place (dCons (dBin rIxD (dVar 0) (dC (.int 1))) dNil)) (dBin rNeV (dBin rIxD (dVar 0) (dC (.int 0))) (dBin rIxD (dVar 0) (dC (.int 1))))))))
def b_check_point : TSd := (dIfS (dNotT (dTst (dFn0 sp_is_place (dCons (dVar 0) dNil)))) dNever dNext)
def b_check_segment : TSd := (dIfS (dNotT (dTst (dFn0 sp_is_stretch (dCons (dVar 0) dNil)))) dNever dNext)
def b_sign_1 : TSd := (dIfS (dTst (dBin rEqV (dVar 0) (dC (.int 0)))) (dRet (dC (.int 0))) dNext)
def b_sign_2 : TSd := (dRet (dIf (dTst (dBin rGtD (dVar 0) (dC (.int 0)))) (dC (.int 1)) (dNeg (dC (.int 1)))))
def b_sign : TSd := (dSeq b_sign_1 b_sign_2)
def b_is_less : TSd := (dRet (dBin rLtD (dBin rMulD (dBin rIxD (dVar 0) (dC (.int 0))) (dBin rIxD (dVar 1) (dC (.int 1)))) (dBin rMulD (dBin rIxD (dVar 1) (dC (.int 0))) (dBin rIxD (dVar 0) (dC (.int 1))))))
def b_is_ahead_1 : TSd := (dIfS (dTst (dBin rNeV (dBin rIxD (dVar 0) (dC (.int 0))) (dBin rIxD (dVar 1) (dC (.int 0))))) (dRet (dFn0 sp_is_less (dCons (dBin rIxD (dVar 0) (dC (.int 0))) (dCons (dBin rIxD (dVar 1) (dC (.int 0))) dNil)))) dNext)
def b_is_ahead_2 : TSd := (dRet (dFn0 sp_is_less (dCons (dBin rIxD (dVar 0) (dC (.int 1))) (dCons (dBin rIxD (dVar 1) (dC (.int 1))) dNil))))
def b_is_ahead : TSd := (dSeq b_is_ahead_1 b_is_ahead_2)
def b_scaled_1 : TSd := (dAsg (dVar 0) (hTup 2 (hCons (hTup 2 (hCons (hName 1) (hCons (hName 2) hNil))) (hCons (hTup 2 (hCons (hName 3) (hCons (hName 4) hNil))) hNil))))
def b_scaled_2 : TSd := (dAsg (dCall cLcm (dCons (dVar 2) (dCons (dVar 4) dNil))) (hName 5))
def b_scaled_3 : TSd := (dRet (dTup (dCons (dBin rMulD (dVar 1) (dBin rDivD (dVar 5) (dVar 2))) (dCons (dBin rMulD (dVar 3) (dBin rDivD (dVar 5) (dVar 4))) (dCons (dVar 5) dNil)))))
def b_scaled : TSd := (dSeq b_scaled_1 (dSeq b_scaled_2 b_scaled_3))
def b_crossed : TSd := (dRet (dTup (dCons (dBin rSubD (dBin rMulD (dBin rIxD (dVar 0) (dC (.int 1))) (dBin rIxD (dVar 1) (dC (.int 2)))) (dBin rMulD (dBin rIxD (dVar 0) (dC (.int 2))) (dBin rIxD (dVar 1) (dC (.int 1))))) (dCons (dBin rSubD (dBin rMulD (dBin rIxD (dVar 0) (dC (.int 2))) (dBin rIxD (dVar 1) (dC (.int 0)))) (dBin rMulD (dBin rIxD (dVar 0) (dC (.int 0))) (dBin rIxD (dVar 1) (dC (.int 2))))) (dCons (dBin rSubD (dBin rMulD (dBin rIxD (dVar 0) (dC (.int 0))) (dBin rIxD (dVar 1) (dC (.int 1)))) (dBin rMulD (dBin rIxD (dVar 0) (dC (.int 1))) (dBin rIxD (dVar 1) (dC (.int 0))))) dNil)))))
def b_along : TSd := (dRet (dBin rAddD (dBin rAddD (dBin rMulD (dBin rIxD (dVar 0) (dC (.int 0))) (dBin rIxD (dVar 1) (dC (.int 0)))) (dBin rMulD (dBin rIxD (dVar 0) (dC (.int 1))) (dBin rIxD (dVar 1) (dC (.int 1))))) (dBin rMulD (dBin rIxD (dVar 0) (dC (.int 2))) (dBin rIxD (dVar 1) (dC (.int 2))))))
def b_side_of : TSd := (dRet (dFn0 sp_sign (dCons (dFn0 sp_along (dCons (dFn0 sp_crossed (dCons (dFn0 sp_scaled (dCons (dVar 0) dNil)) (dCons (dFn0 sp_scaled (dCons (dVar 1) dNil)) dNil))) (dCons (dFn0 sp_scaled (dCons (dVar 2) dNil)) dNil))) dNil)))
def b_in_order_1 : TSd := (dAsg (dVar 0) (hTup 2 (hCons (hName 1) (hCons (hName 2) hNil))))
def b_in_order_2 : TSd := (dRet (dIf (dTst (dFn0 sp_is_ahead (dCons (dVar 2) (dCons (dVar 1) dNil)))) (dTup (dCons (dVar 2) (dCons (dVar 1) dNil))) (dTup (dCons (dVar 1) (dCons (dVar 2) dNil)))))
def b_in_order : TSd := (dSeq b_in_order_1 b_in_order_2)
def b_lies_on_1 : TSd := (dIfS (dTst (dBin rNeV (dFn0 sp_side_of (dCons (dBin rIxD (dVar 0) (dC (.int 0))) (dCons (dBin rIxD (dVar 0) (dC (.int 1))) (dCons (dVar 1) dNil)))) (dC (.int 0)))) (dRet (dC (.bool false))) dNext)
def b_lies_on_2 : TSd := (dAsg (dFn0 sp_in_order (dCons (dVar 0) dNil)) (hTup 2 (hCons (hName 2) (hCons (hName 3) hNil))))
def b_lies_on_3 : TSd := (dRet (dAnd (dNot (dFn0 sp_is_ahead (dCons (dVar 1) (dCons (dVar 2) dNil)))) (dNot (dFn0 sp_is_ahead (dCons (dVar 3) (dCons (dVar 1) dNil))))))
def b_lies_on : TSd := (dSeq b_lies_on_1 (dSeq b_lies_on_2 b_lies_on_3))
def b_is_point : TSd := (dRet (dFn0 sp_is_place (dCons (dVar 0) dNil)))
def b_turn_of_1 : TSd := (dDrop (dFn0 sp_check_point (dCons (dVar 0) dNil)))
def b_turn_of_2 : TSd := (dDrop (dFn0 sp_check_point (dCons (dVar 1) dNil)))
def b_turn_of_3 : TSd := (dDrop (dFn0 sp_check_point (dCons (dVar 2) dNil)))
def b_turn_of_4 : TSd := (dRet (dFn0 sp_side_of (dCons (dVar 0) (dCons (dVar 1) (dCons (dVar 2) dNil)))))
def b_turn_of : TSd := (dSeq b_turn_of_1 (dSeq b_turn_of_2 (dSeq b_turn_of_3 b_turn_of_4)))
def b_is_on_1 : TSd := (dDrop (dFn0 sp_check_segment (dCons (dVar 0) dNil)))
def b_is_on_2 : TSd := (dDrop (dFn0 sp_check_point (dCons (dVar 1) dNil)))
def b_is_on_3 : TSd := (dRet (dFn0 sp_lies_on (dCons (dVar 0) (dCons (dVar 1) dNil))))
def b_is_on : TSd := (dSeq b_is_on_1 (dSeq b_is_on_2 b_is_on_3))
def b_spring_1 (c : Int) : TSd := (dAsg (dBin rAddD (dC (.int c)) (dBin rMulD (dC (.int 9241)) (dVar 1))) (hName 2))
def b_spring_2 : TSd := (dFor (dIter (dSl (dVar 0) dNoP (dPart (dC (.int 9))))) (hName 3) (dAsg (dBin rModD (dCall cInt (dCons (dBin rAddD (dBin rAddD (dBin rMulD (dVar 2) (dC (.int 58027))) (dBin rModD (dCall cInt (dCons (dVar 3) dNil)) (dC (.int 2147483587)))) (dC (.int 19))) dNil)) (dC (.int 2147483629))) (hName 2)))
def b_spring_3 : TSd := (dAsg (dIf (dTst (dBin rLtD (dVar 1) (dCall cLen (dCons (dVar 0) dNil)))) (dCall cInt (dCons (dBin rIxD (dVar 0) (dVar 1)) dNil)) (dC (.int 0))) (hName 4))
def b_spring_4 : TSd := (dAsg (dBin rModD (dCall cInt (dCons (dBin rAddD (dBin rAddD (dBin rMulD (dVar 2) (dC (.int 61))) (dBin rMulD (dBin rModD (dCall cInt (dCons (dVar 4) dNil)) (dC (.int 2147483587))) (dC (.int 30011)))) (dC (.int 7))) dNil)) (dC (.int 2147483629))) (hName 2))
def b_spring_5 : TSd := (dRet (dLst (dCons (dIf (dOrT (dTst (dBin rLtD (dVar 4) (dC (.int 0)))) (dTst (dBin rGeD (dVar 4) (dBin rPowD (dC (.int 10)) (dC (.int 15)))))) (dCall cAbs (dCons (dVar 4) dNil)) (dC (.int 0))) (dCons (dVar 2) (dCons (dC (.int 0)) dNil)))))
def b_spring (c : Int) : TSd := (dSeq (b_spring_1 c) (dSeq b_spring_2 (dSeq b_spring_3 (dSeq b_spring_4 b_spring_5))))
def b_draw_1 : TSd := (dIfS (dTst (dBin rGtD (dBin rIxD (dVar 0) (dC (.int 0))) (dC (.int 0)))) (dSeq (dAsg (dCall cDivmod (dCons (dBin rIxD (dVar 0) (dC (.int 0))) (dCons (dVar 1) dNil))) (hTup 2 (hCons (hSub (dVar 0) (dC (.int 0))) (hCons (hName 2) hNil)))) (dRet (dVar 2))) dNext)
def b_draw_2 : TSd := (dAsg (dBin rAddD (dBin rIxD (dVar 0) (dC (.int 2))) (dC (.int 1))) (hSub (dVar 0) (dC (.int 2))))
def b_draw_3 : TSd := (dAsg (dBin rModD (dCall cInt (dCons (dBin rAddD (dBin rIxD (dVar 0) (dC (.int 1))) (dBin rMulD (dC (.int 70003)) (dBin rIxD (dVar 0) (dC (.int 2))))) dNil)) (dC (.int 2147483629))) (hName 3))
def b_draw_4 : TSd := (dAsg (dBin rModD (dCall cInt (dCons (dBin rAddD (dBin rMulD (dVar 3) (dBin rAddD (dBin rModD (dCall cInt (dCons (dVar 3) dNil)) (dC (.int 6007))) (dC (.int 50021)))) (dBin rMulD (dC (.int 29)) (dBin rIxD (dVar 0) (dC (.int 2))))) dNil)) (dC (.int 2147483629))) (hSub (dVar 0) (dC (.int 1))))
def b_draw_5 : TSd := (dRet (dBin rModD (dCall cInt (dCons (dBin rDivD (dBin rIxD (dVar 0) (dC (.int 1))) (dC (.int 769))) dNil)) (dVar 1)))
def b_draw : TSd := (dSeq b_draw_1 (dSeq b_draw_2 (dSeq b_draw_3 (dSeq b_draw_4 b_draw_5))))
def b_one_of : TSd := (dRet (dBin rIxD (dVar 1) (dFn0 sp_draw (dCons (dVar 0) (dCons (dCall cLen (dCons (dVar 1) dNil)) dNil)))))
def b_divisor_1 : TSd := (dPar 2 3 (dCons (dCall cAbs (dCons (dVar 0) dNil)) (dCons (dCall cAbs (dCons (dVar 1) dNil)) dNil)))
def b_divisor_2 : TSd := (dWhile (dTst (dBin rNeV (dVar 3) (dC (.int 0)))) (dPar 2 3 (dCons (dVar 3) (dCons (dBin rModD (dCall cInt (dCons (dVar 2) dNil)) (dVar 3)) dNil))))
def b_divisor_3 : TSd := (dRet (dVar 2))
def b_divisor : TSd := (dSeq b_divisor_1 (dSeq b_divisor_2 b_divisor_3))
def b_part_1 : TSd := (dAsg (dIf (dTst (dBin rGtD (dVar 1) (dC (.int 0)))) (dFn0 sp_divisor (dCons (dVar 0) (dCons (dVar 1) dNil))) (dBin rSubD (dC (.int 0)) (dFn0 sp_divisor (dCons (dVar 0) (dCons (dVar 1) dNil))))) (hName 2))
def b_part_2 : TSd := (dRet (dTup (dCons (dBin rDivD (dVar 0) (dVar 2)) (dCons (dBin rDivD (dVar 1) (dVar 2)) dNil))))
def b_part : TSd := (dSeq b_part_1 b_part_2)
def b_place_1 : TSd := (dAsg (dIf (dTst (dBin rGtD (dVar 2) (dC (.int 0)))) (dFn0 sp_divisor (dCons (dFn0 sp_divisor (dCons (dVar 0) (dCons (dVar 1) dNil))) (dCons (dVar 2) dNil))) (dBin rSubD (dC (.int 0)) (dFn0 sp_divisor (dCons (dFn0 sp_divisor (dCons (dVar 0) (dCons (dVar 1) dNil))) (dCons (dVar 2) dNil))))) (hName 3))
def b_place_2 : TSd := (dRet (dTup (dCons (dBin rDivF (dVar 0) (dVar 3)) (dCons (dBin rDivF (dVar 1) (dVar 3)) (dCons (dBin rDivF (dVar 2) (dVar 3)) dNil)))))
def b_place : TSd := (dSeq b_place_1 b_place_2)
def b_told : TSd := (dRet (dTup (dCons (dFn0 sp_part (dCons (dBin rIxD (dVar 0) (dC (.int 0))) (dCons (dBin rIxD (dVar 0) (dC (.int 2))) dNil))) (dCons (dFn0 sp_part (dCons (dBin rIxD (dVar 0) (dC (.int 1))) (dCons (dBin rIxD (dVar 0) (dC (.int 2))) dNil))) dNil))))
def b_own_1 : TSd := (dAsg (dVar 0) (hTup 2 (hCons (hTup 2 (hCons (hName 1) (hCons (hName 2) hNil))) (hCons (hTup 2 (hCons (hName 3) (hCons (hName 4) hNil))) hNil))))
def b_own_2 : TSd := (dRet (dFn0 sp_place (dCons (dBin rMulD (dVar 1) (dVar 4)) (dCons (dBin rMulD (dVar 3) (dVar 2)) (dCons (dBin rMulD (dVar 2) (dVar 4)) dNil)))))
def b_own : TSd := (dSeq b_own_1 b_own_2)
def b_side_1 : TSd := (dAsg (dBin rSubD (dBin rMulD (dBin rIxD (dVar 0) (dC (.int 0))) (dBin rSubD (dBin rMulD (dBin rIxD (dVar 1) (dC (.int 1))) (dBin rIxD (dVar 2) (dC (.int 2)))) (dBin rMulD (dBin rIxD (dVar 2) (dC (.int 1))) (dBin rIxD (dVar 1) (dC (.int 2)))))) (dBin rMulD (dBin rIxD (dVar 0) (dC (.int 1))) (dBin rSubD (dBin rMulD (dBin rIxD (dVar 1) (dC (.int 0))) (dBin rIxD (dVar 2) (dC (.int 2)))) (dBin rMulD (dBin rIxD (dVar 2) (dC (.int 0))) (dBin rIxD (dVar 1) (dC (.int 2))))))) (hName 3))
def b_side_2 : TSd := (dRet (dBin rAddD (dVar 3) (dBin rMulD (dBin rIxD (dVar 0) (dC (.int 2))) (dBin rSubD (dBin rMulD (dBin rIxD (dVar 1) (dC (.int 0))) (dBin rIxD (dVar 2) (dC (.int 1)))) (dBin rMulD (dBin rIxD (dVar 2) (dC (.int 0))) (dBin rIxD (dVar 1) (dC (.int 1))))))))
def b_side : TSd := (dSeq b_side_1 b_side_2)
def b_l_is_less_1 : TSd := (dIfS (dTst (dBin rNeV (dBin rMulD (dBin rIxD (dVar 0) (dC (.int 0))) (dBin rIxD (dVar 1) (dC (.int 2)))) (dBin rMulD (dBin rIxD (dVar 1) (dC (.int 0))) (dBin rIxD (dVar 0) (dC (.int 2)))))) (dRet (dBin rLtD (dBin rMulD (dBin rIxD (dVar 0) (dC (.int 0))) (dBin rIxD (dVar 1) (dC (.int 2)))) (dBin rMulD (dBin rIxD (dVar 1) (dC (.int 0))) (dBin rIxD (dVar 0) (dC (.int 2)))))) dNext)
def b_l_is_less_2 : TSd := (dRet (dBin rLtD (dBin rMulD (dBin rIxD (dVar 0) (dC (.int 1))) (dBin rIxD (dVar 1) (dC (.int 2)))) (dBin rMulD (dBin rIxD (dVar 1) (dC (.int 1))) (dBin rIxD (dVar 0) (dC (.int 2))))))
def b_l_is_less : TSd := (dSeq b_l_is_less_1 b_l_is_less_2)
def b_l_lies_on_1 : TSd := (dIfS (dTst (dBin rNeV (dFn0 sp_side (dCons (dVar 0) (dCons (dVar 1) (dCons (dVar 2) dNil)))) (dC (.int 0)))) (dRet (dC (.bool false))) dNext)
def b_l_lies_on_2 : TSd := (dAsg (dIf (dTst (dFn0 sp_l_is_less (dCons (dVar 0) (dCons (dVar 1) dNil)))) (dTup (dCons (dVar 0) (dCons (dVar 1) dNil))) (dTup (dCons (dVar 1) (dCons (dVar 0) dNil)))) (hTup 2 (hCons (hName 3) (hCons (hName 4) hNil))))
def b_l_lies_on_3 : TSd := (dRet (dAnd (dNot (dFn0 sp_l_is_less (dCons (dVar 2) (dCons (dVar 3) dNil)))) (dNot (dFn0 sp_l_is_less (dCons (dVar 4) (dCons (dVar 2) dNil))))))
def b_l_lies_on : TSd := (dSeq b_l_lies_on_1 (dSeq b_l_lies_on_2 b_l_lies_on_3))
def b_odd_1 : TSd := (dAsg (dTup (dCons (dTup (dCons (dTup (dCons (dC (.int 0)) (dCons (dC (.int 1)) dNil))) (dCons (dTup (dCons (dC (.int 0)) (dCons (dC (.int 1)) dNil))) dNil))) (dCons (dTup (dCons (dTup (dCons (dC (.int 1)) (dCons (dC (.int 1)) dNil))) (dCons (dTup (dCons (dC (.int 0)) (dCons (dC (.int 1)) dNil))) dNil))) (dCons (dTup (dCons (dTup (dCons (dNeg (dC (.int 3))) (dCons (dC (.int 2)) dNil))) (dCons (dTup (dCons (dC (.int 5)) (dCons (dC (.int 7)) dNil))) dNil))) dNil)))) (hTup 3 (hCons (hName 1) (hCons (hName 2) (hCons (hName 3) hNil)))))
def b_odd_2 : TSd := (dAsg (dLstV (dCons (dC .none) (dCons (dC (.bool true)) (dCons (dC (.bool false)) (dCons (dC (.int 0)) (dCons (dC (.int 1)) (dCons (dNeg (dC (.int 1))) (dCons (dBin rPowD (dC (.int 10)) (dC (.int 25))) (dCons (dC (.str "")) (dCons (dC (.str "A")) (dCons (dC (.str "E")) (dCons (dC (.str "a")) (dCons (dC (.str "spot")) (dCons (dC (.str "vertex")) (dCons (dC (.str "face")) (dCons (dTup dNil) (dCons (dTup (dCons (dC (.int 0)) dNil)) (dCons (dTup (dCons (dC (.int 0)) (dCons (dC (.int 1)) dNil))) (dCons (dTup (dCons (dC (.int 1)) (dCons (dC (.int 1)) dNil))) (dCons (dTup (dCons (dC (.int 2)) (dCons (dC (.int 2)) dNil))) (dCons (dTup (dCons (dC (.int 0)) (dCons (dC (.int 3)) dNil))) (dCons (dTup (dCons (dC (.int 0)) (dCons (dC (.int 0)) dNil))) (dCons (dTup (dCons (dC (.int 1)) (dCons (dC (.int 0)) dNil))) (dCons (dTup (dCons (dC (.int 3)) (dCons (dNeg (dC (.int 2))) dNil))) (dCons (dTup (dCons (dC (.bool true)) (dCons (dC (.int 1)) dNil))) (dCons (dTup (dCons (dC (.int 0)) (dCons (dC (.bool true)) dNil))) (dCons (dTup (dCons (dC (.str "0")) (dCons (dC (.int 1)) dNil))) (dCons (dTup (dCons (dC .none) (dCons (dC (.int 1)) dNil))) (dCons (dVar 1) (dCons (dVar 2) (dCons (dVar 3) (dCons (dTup (dCons (dVar 1) (dCons (dVar 2) dNil))) (dCons (dTup (dCons (dVar 3) (dCons (dVar 1) dNil))) (dCons (dTup (dCons (dVar 1) (dCons (dVar 1) dNil))) (dCons (dTup (dCons (dVar 1) (dCons (dVar 2) (dCons (dVar 3) dNil)))) (dCons (dTup (dCons (dVar 2) (dCons (dVar 3) (dCons (dVar 2) dNil)))) (dCons (dTup (dCons (dTup (dCons (dC (.int 0)) (dCons (dC (.int 1)) dNil))) dNil)) (dCons (dTup (dCons (dTup (dCons (dC (.int 0)) (dCons (dC (.int 1)) dNil))) (dCons (dTup (dCons (dC (.int 0)) (dCons (dC (.int 2)) dNil))) dNil))) (dCons (dTup (dCons (dTup (dCons (dC (.int 0)) (dCons (dC (.int 1)) dNil))) (dCons (dTup (dCons (dC (.int 1)) (dCons (dC (.int 1)) dNil))) (dCons (dTup (dCons (dC (.int 0)) (dCons (dC (.int 1)) dNil))) dNil)))) (dCons (dTup (dCons (dLstV (dCons (dC (.int 0)) (dCons (dC (.int 1)) dNil))) (dCons (dTup (dCons (dC (.int 0)) (dCons (dC (.int 1)) dNil))) dNil))) (dCons (dLstV dNil) (dCons (dLstV (dCons (dC (.int 0)) (dCons (dC (.int 1)) dNil))) (dCons (dLstV (dCons (dTup (dCons (dC (.int 0)) (dCons (dC (.int 1)) dNil))) (dCons (dTup (dCons (dC (.int 0)) (dCons (dC (.int 1)) dNil))) dNil))) (dCons (dDict []) (dCons (dDict [(.str "A", .int 1)]) (dCons (dTup (dCons (dC (.str "vertex")) (dCons (dC (.int 0)) dNil))) (dCons (dTup (dCons (dC (.str "edge")) (dCons (dC (.int 0)) dNil))) (dCons (dTup (dCons (dC (.str "face")) (dCons (dC (.int 0)) dNil))) (dCons (dTup (dCons (dC (.str "face")) (dCons (dC (.int 1)) dNil))) (dCons (dTup (dCons (dC (.str "face")) (dCons (dC (.bool true)) dNil))) (dCons (dTup (dCons (dC (.str "vertex")) (dCons (dNeg (dC (.int 1))) dNil))) (dCons (dTup (dCons (dC (.str "cell")) (dCons (dC (.int 0)) dNil))) (dCons (dLstV (dCons (dC (.str "face")) (dCons (dC (.int 0)) dNil))) (dCons (dTup (dCons (dC (.str "spot")) (dCons (dVar 1) dNil))) (dCons (dTup (dCons (dC (.str "spot")) (dCons (dTup (dCons (dVar 1) dNil)) dNil))) (dCons (dTup (dCons (dC (.str "spot")) (dCons (dVar 1) (dCons (dVar 2) dNil)))) (dCons (dTup (dCons (dC (.str "path")) (dCons (dTup (dCons (dVar 1) (dCons (dVar 2) dNil))) dNil))) (dCons (dTup (dCons (dC (.str "path")) (dCons (dTup (dCons (dVar 1) (dCons (dVar 1) dNil))) dNil))) (dCons (dTup (dCons (dC (.str "path")) (dCons (dTup (dCons (dVar 1) dNil)) dNil))) (dCons (dTup (dCons (dC (.str "path")) (dCons (dTup dNil) dNil))) (dCons (dTup (dCons (dC (.str "area")) (dCons (dTup (dCons (dVar 1) (dCons (dVar 2) (dCons (dVar 3) dNil)))) dNil))) (dCons (dTup (dCons (dC (.str "area")) (dCons (dTup (dCons (dVar 1) (dCons (dVar 2) (dCons (dVar 1) dNil)))) dNil))) (dCons (dTup (dCons (dC (.str "area")) (dCons (dTup (dCons (dVar 1) (dCons (dVar 2) dNil))) dNil))) (dCons (dTup (dCons (dC (.str "area")) (dCons (dLstV (dCons (dVar 1) (dCons (dVar 2) (dCons (dVar 3) dNil)))) dNil))) (dCons (dTup (dCons (dC (.str "rim")) (dCons (dTup (dCons (dC (.str "spot")) (dCons (dVar 1) dNil))) dNil))) (dCons (dTup (dCons (dC (.str "rim")) dNil)) (dCons (dTup (dCons (dC (.str "both")) (dCons (dTup (dCons (dC (.str "spot")) (dCons (dVar 1) dNil))) (dCons (dTup (dCons (dC (.str "spot")) (dCons (dVar 2) dNil))) dNil)))) (dCons (dTup (dCons (dC (.str "both")) (dCons (dTup (dCons (dC (.str "spot")) (dCons (dVar 1) dNil))) dNil))) (dCons (dTup (dCons (dC (.str "not")) (dCons (dTup (dCons (dC (.str "spot")) (dCons (dVar 1) dNil))) dNil))) (dCons (dTup (dCons (dC (.str "closure")) (dCons (dC (.str "A")) dNil))) (dCons (dTup (dCons (dC (.str "inner")) (dCons (dTup (dCons (dC (.str "spot")) (dCons (dVar 2) dNil))) (dCons (dTup (dCons (dC (.str "spot")) (dCons (dVar 2) dNil))) dNil)))) (dCons (dTup (dCons (dTup (dCons (dC (.str "A")) (dCons (dTup (dCons (dC (.str "spot")) (dCons (dVar 1) dNil))) dNil))) dNil)) (dCons (dTup (dCons (dTup (dCons (dC (.str "B")) (dCons (dTup (dCons (dC (.str "spot")) (dCons (dVar 1) dNil))) dNil))) (dCons (dTup (dCons (dC (.str "A")) (dCons (dTup (dCons (dC (.str "spot")) (dCons (dVar 1) dNil))) dNil))) dNil))) (dCons (dTup (dCons (dTup (dCons (dC (.str "a")) (dCons (dTup (dCons (dC (.str "spot")) (dCons (dVar 1) dNil))) dNil))) dNil)) (dCons (dTup (dCons (dTup (dCons (dC (.str "A")) (dCons (dVar 1) dNil))) dNil)) (dCons (dTup (dCons (dTup (dCons (dC (.str "A")) (dCons (dTup (dCons (dC (.str "spot")) (dCons (dVar 1) dNil))) dNil))) (dCons (dTup (dCons (dC (.str "A")) (dCons (dTup (dCons (dC (.str "spot")) (dCons (dVar 2) dNil))) dNil))) dNil))) (dCons (dTup (dCons (dTup (dCons (dVar 1) (dCons (dVar 2) dNil))) (dCons (dTup (dCons (dVar 2) (dCons (dVar 1) dNil))) dNil))) (dCons (dTup (dCons (dTup (dCons (dVar 1) (dCons (dVar 1) dNil))) dNil)) dNil)))))))))))))))))))))))))))))))))))))))))))))))))))))))))))))))))))))))))))))) (hName 4))
def b_odd_3 : TSd := (dRet (dFn0 sp_one_of (dCons (dVar 0) (dCons (dVar 4) dNil))))
def b_odd : TSd := (dSeq b_odd_1 (dSeq b_odd_2 b_odd_3))
def b_bent_1 (sp_self : SpD) : TSd := (dIfS (dAndT (dTst (dIs "tuple" (dVar 1))) (dAndT (dTst (dBin rNeV (dVar 1) (dTup dNil))) (dTst (dBin rGtD (dFn0 sp_draw (dCons (dVar 0) (dCons (dC (.int 5)) dNil))) (dC (.int 0)))))) (dSeq (dAsg (dFn0 sp_draw (dCons (dVar 0) (dCons (dCall cLen (dCons (dVar 1) dNil)) dNil))) (hName 2)) (dRet (dBin rAddD (dBin rAddD (dSl (dVar 1) dNoP (dPart (dVar 2))) (dTup (dCons (dFn0 sp_self (dCons (dVar 0) (dCons (dBin rIxD (dVar 1) (dVar 2)) dNil))) dNil))) (dSl (dVar 1) (dPart (dBin rAddD (dVar 2) (dC (.int 1)))) dNoP)))) dNext)
def b_bent_2 (sp_self : SpD) : TSd := (dAsg (dFn0 sp_draw (dCons (dVar 0) (dCons (dC (.int 9)) dNil))) (hName 3))
def b_bent_3 (sp_self : SpD) : TSd := (dIfS (dAndT (dTst (dIs "tuple" (dVar 1))) (dTst (dBin rLtD (dVar 3) (dC (.int 7))))) (dRet (dBin rIxD (dTup (dCons (dCall cListV (dCons (dVar 1) dNil)) (dCons (dSl (dVar 1) dNoP (dPart (dNeg (dC (.int 1))))) (dCons (dBin rAddD (dVar 1) (dSl (dVar 1) (dPart (dNeg (dC (.int 1)))) dNoP)) (dCons (dRev (dVar 1)) (dCons (dSl (dVar 1) (dPart (dC (.int 1))) dNoP) (dCons (dBin rAddD (dSl (dVar 1) dNoP (dPart (dC (.int 1)))) (dVar 1)) (dCons (dTup (dCons (dVar 1) dNil)) dNil)))))))) (dVar 3))) dNext)
def b_bent_4 (sp_self : SpD) : TSd := (dIfS (dAndT (dTst (dIs "int" (dVar 1))) (dTst (dBin rLtD (dVar 3) (dC (.int 6))))) (dRet (dBin rIxD (dTup (dCons (dBin rAddD (dVar 1) (dC (.int 1))) (dCons (dBin rSubD (dC (.int 0)) (dVar 1)) (dCons (dBin rMulD (dC (.int 2)) (dVar 1)) (dCons (dBin rSubD (dVar 1) (dC (.int 2))) (dCons (dBin rEqV (dVar 1) (dC (.int 1))) (dCons (dCall cStrI (dCons (dVar 1) dNil)) dNil))))))) (dVar 3))) dNext)
def b_bent_5 (sp_self : SpD) : TSd := (dRet (dFn0 sp_odd (dCons (dVar 0) dNil)))
def b_bent (sp_self : SpD) : TSd := (dSeq (b_bent_1 sp_self) (dSeq (b_bent_2 sp_self) (dSeq (b_bent_3 sp_self) (dSeq (b_bent_4 sp_self) (b_bent_5 sp_self)))))
def b_l_is_whole : TSd := (dRet (dAnd (dIs "int" (dVar 0)) (dNot (dIs "bool" (dVar 0)))))
def b_is_lot : TSd := (dRet (dAnd (dIs "tuple" (dVar 0)) (dChain rLeD rLeD (dVar 1) (dCall cLen (dCons (dVar 0) dNil)) (dVar 2))))
def b_l_is_fraction_1 : TSd := (dIfS (dOrT (dNotT (dTst (dFn0 sp_is_lot (dCons (dVar 0) (dCons (dC (.int 2)) (dCons (dC (.int 2)) dNil)))))) (dNotT (dTst (dCall cAll (dCons (dLcV (dIter (dVar 0)) 1 dYes (dFn0 sp_l_is_whole (dCons (dVar 1) dNil))) dNil))))) (dRet (dC (.bool false))) dNext)
def b_l_is_fraction_2 : TSd := (dRet (dAnd (dBin rGtD (dBin rIxD (dVar 0) (dC (.int 1))) (dC (.int 0))) (dBin rEqV (dFn0 sp_divisor (dCons (dBin rIxD (dVar 0) (dC (.int 0))) (dCons (dBin rIxD (dVar 0) (dC (.int 1))) dNil))) (dC (.int 1)))))
def b_l_is_fraction : TSd := (dSeq b_l_is_fraction_1 b_l_is_fraction_2)
def b_is_told : TSd := (dRet (dAnd (dFn0 sp_is_lot (dCons (dVar 0) (dCons (dC (.int 2)) (dCons (dC (.int 2)) dNil)))) (dCall cAll (dCons (dLcV (dIter (dVar 0)) 1 dYes (dFn0 sp_l_is_fraction (dCons (dVar 1) dNil))) dNil))))
def b_l_sign : TSd := (dRet (dIf (dTst (dBin rGtD (dVar 0) (dC (.int 0)))) (dC (.int 1)) (dIf (dTst (dBin rEqV (dVar 0) (dC (.int 0)))) (dC (.int 0)) (dNeg (dC (.int 1))))))
end LB
local macro_rules | `(tactic| walk_at "val") => `(tactic| repeat' (first | exact DL.vls_nil | apply DL.vls_cons | exact DL.val_c | exact DL.val_dict | exact DL.val_neg | exact DL.val_var rfl | apply DL.val_tup | apply DL.val_lst | apply DL.val_lstV | exact DL.val_pow ⟨by decide, by decide, by decide⟩ | decide))
local macro_rules | `(tactic| walk_at "st") => `(tactic| simp only [DL.startD, List.map_cons, List.map_nil, List.length_cons, List.length_nil, Nat.reduceAdd, Nat.reduceSub, List.replicate_succ, List.replicate_zero, List.cons_append, List.nil_append, List.append_nil, Nat.sub_self, Nat.zero_add])
local macro_rules | `(tactic| walk_at "go") => `(tactic| simp only [↓DL.dSeq, ↓DL.dNext, ↓DL.dAsg, ↓DL.dRet, ↓DL.dRetN, ↓DL.dIfS, ↓DL.dDrop, ↓DL.dBin, ↓DL.dCons, ↓DL.dNil, ↓DL.dTup, ↓DL.dC, ↓DL.dNeg, ↓DL.dAnd, ↓DL.dOr, ↓DL.dNot, ↓DL.dIf, ↓DL.dTst, ↓DL.asB, ↓DL.dChain, ↓DL.dAndT, ↓DL.dOrT, ↓DL.dNotT, ↓DL.dCall, ↓DL.dFn0, ↓DL.dFnK, ↓DL.dIs, ↓DL.dSl, ↓DL.dNoP, ↓DL.dPart, ↓DL.dRev, ↓DL.dLst, ↓DL.dLstV, ↓DL.cListV, ↓DL.dDict, ↓DL.dPar, ↓DL.dPar3, ↓DL.hTup, ↓DL.hCons, ↓DL.nil_go, ↓DL.hName, ↓DL.hSub, ↓DL.rI2, ↓DL.rSubD, ↓DL.rMulD, ↓DL.rMulX, ↓DL.rDivF, ↓DL.rDivD, ↓DL.rModD, ↓DL.rPowD, ↓DL.rLtD, ↓DL.rLeD, ↓DL.rGtD, ↓DL.rGeD, ↓DL.rAddD, ↓DL.ixt_0, ↓DL.ixt_1, ↓DL.ixt_2, ↓DL.ixt_3, ↓DL.ixt_4, ↓DL.ixl_0, ↓DL.ixl_1, ↓DL.ixl_2, ↓DL.ixl_3, ↓DL.ixl_4, ↓DL.rEqV, ↓DL.rNeV, ↓DL.rSlD, ↓DL.cLen, ↓DL.cAbs, ↓DL.cInt, ↓DL.cStrI, ↓DL.cDivmod, ↓DL.cMin, ↓DL.cMax, ↓DL.cGcd, ↓DL.cLcm, ↓DL.cAll, ↓DL.cRepr, ↓DL.cList, ↓DL.cTuple, ↓DL.rC1, ↓DL.rC2, ↓DL.dNever, ↓DL.dIter, ↓DL.dRng1, ↓DL.dRng2, ↓DL.dYes,
  ↓DL.frz_d, ↓DL.var_zero, ↓DL.var_succ, ↓DL.var_set, ↓DL.var_ne, DL.own_some, DL.no_own2, DL.eqv_int, DL.sh_int, DL.sh_bool, DL.kit_int, DL.kit_bool, DL.kit_tuple, DL.kit_str, DL.is_int, DL.is_bool, DL.is_tuple, DL.is_str, DL.pures_nil, DL.pures_cons, Option.map_some, List.length_cons, List.length_nil, List.length_set, List.map_cons, List.map_nil, DL.pick, List.filterMap_cons, List.filterMap_nil,
  true_and, and_true, ite_true, ite_false, if_true, if_false, reduceIte, reduceCtorEq, ne_eq, not_false_eq_true, Nat.reduceAdd, Nat.reduceLT, Nat.reduceEqDiff, decide_eq_true_eq, Bool.not_true, Bool.not_false, Bool.false_eq_true, eq_self])
local macro_rules | `(tactic| walk_at "gk") => `(tactic| simp only [↓LB.sp_divisor, ↓LB.sp_part, ↓LB.sp_place, ↓LB.sp_is_whole, ↓LB.sp_l_is_whole, ↓LB.sp_is_row, ↓LB.sp_is_lot, ↓LB.sp_is_fraction, ↓LB.sp_l_is_fraction, ↓LB.sp_is_place, ↓LB.sp_is_point, ↓LB.sp_is_told, ↓LB.sp_told, ↓LB.sp_own, ↓LB.sp_side, ↓LB.sp_l_is_less, ↓LB.sp_l_lies_on, ↓LB.sp_l_sign, ↓LB.sp_sign, ↓LB.sp_scaled, ↓LB.sp_crossed, ↓LB.sp_along, ↓LB.sp_is_less, ↓DL.dSeq, ↓DL.dNext, ↓DL.dAsg, ↓DL.dRet, ↓DL.dRetN, ↓DL.dIfS, ↓DL.dDrop, ↓DL.dBin, ↓DL.dCons, ↓DL.dNil, ↓DL.dTup, ↓DL.dC, ↓DL.dNeg, ↓DL.dAnd, ↓DL.dOr, ↓DL.dNot, ↓DL.dIf, ↓DL.dTst, ↓DL.asB, ↓DL.dChain, ↓DL.dAndT, ↓DL.dOrT, ↓DL.dNotT, ↓DL.dCall, ↓DL.dFn0, ↓DL.dFnK, ↓DL.dIs, ↓DL.dSl, ↓DL.dNoP, ↓DL.dPart, ↓DL.dRev, ↓DL.dLst, ↓DL.dLstV, ↓DL.cListV, ↓DL.dDict, ↓DL.dPar, ↓DL.dPar3, ↓DL.hTup, ↓DL.hCons, ↓DL.nil_go, ↓DL.hName, ↓DL.hSub, ↓DL.rI2, ↓DL.rSubD, ↓DL.rMulD, ↓DL.rMulX, ↓DL.rDivF, ↓DL.rDivD, ↓DL.rModD, ↓DL.rPowD, ↓DL.rLtD, ↓DL.rLeD, ↓DL.rGtD, ↓DL.rGeD, ↓DL.rAddD, ↓DL.ixt_0, ↓DL.ixt_1, ↓DL.ixt_2, ↓DL.ixt_3, ↓DL.ixt_4, ↓DL.ixl_0, ↓DL.ixl_1, ↓DL.ixl_2, ↓DL.ixl_3, ↓DL.ixl_4, ↓DL.rEqV, ↓DL.rNeV, ↓DL.rSlD, ↓DL.cLen, ↓DL.cAbs, ↓DL.cInt, ↓DL.cStrI, ↓DL.cDivmod, ↓DL.cMin, ↓DL.cMax, ↓DL.cGcd, ↓DL.cLcm, ↓DL.cAll, ↓DL.cRepr, ↓DL.cList, ↓DL.cTuple, ↓DL.rC1, ↓DL.rC2, ↓DL.dNever, ↓DL.dIter, ↓DL.dRng1, ↓DL.dRng2, ↓DL.dYes,
  ↓DL.frz_d, ↓DL.var_zero, ↓DL.var_succ, ↓DL.var_set, ↓DL.var_ne, DL.own_some, DL.no_own2, DL.eqv_int, DL.sh_int, DL.sh_bool, DL.kit_int, DL.kit_bool, DL.kit_tuple, DL.kit_str, DL.is_int, DL.is_bool, DL.is_tuple, DL.is_str, DL.pures_nil, DL.pures_cons, Option.map_some, List.length_cons, List.length_nil, List.length_set, List.map_cons, List.map_nil, DL.pick, List.filterMap_cons, List.filterMap_nil,
  true_and, and_true, ite_true, ite_false, if_true, if_false, reduceIte, reduceCtorEq, ne_eq, not_false_eq_true, Nat.reduceAdd, Nat.reduceLT, Nat.reduceEqDiff, decide_eq_true_eq, Bool.not_true, Bool.not_false, Bool.false_eq_true, eq_self])
namespace LB
open PySem PySem.Spec PyProof.Rows L2 DL
theorem mulW {i j : Int} {a b : Nat} (ha : B a i) (hb : B b j) (h0 : 0 < a) (h1 : 0 < b) (h : a + b ≤ 1000000) : CMulW i j := wide_mul ha hb h0 h1 h
theorem B_of {n : Nat} {i : Int} (k : Nat) (hk : i.natAbs < k) (h : k ≤ 2 ^ n) : B n i := Nat.lt_of_lt_of_le hk h
theorem r_is_whole : ∀ ds st Q, sp_is_whole ds st Q → b_is_whole { nx := fun _ s' => Q (.d .none) s', rt := Q } (startD N_is_whole ds) st := by
  intro ds st Q h
  unfold sp_is_whole at h
  split at h
  · rename_i x
    walk_at "st"
    unfold b_is_whole
    walk_at "go"
    cases x <;> simpa [isW] using h
  · exact h.elim
theorem r_is_row : ∀ ds st Q, sp_is_row ds st Q → b_is_row { nx := fun _ s' => Q (.d .none) s', rt := Q } (startD N_is_row ds) st := by
  intro ds st Q h
  unfold sp_is_row at h
  split at h
  · rename_i x lo hi
    walk_at "st"
    unfold b_is_row
    walk_at "go"
    cases x with
    | tuple xs =>
      simp only [isRow] at h
      walk_at "go"
      by_cases h1 : lo ≤ (xs.length : Int)
      · simpa [h1] using h
      · simpa [h1] using h
    | _ => simpa [isRow] using h
  · exact h.elim
theorem small_div {i j : Int} (h0 : 0 < j) (h : j < 2 ^ 40) : CDivP i j := by
  refine ⟨h0, ?_⟩
  have hj : ¬ (j == 0) = true := by simpa using (show j ≠ 0 by omega)
  have l : j.natAbs.log2 ≤ 39 := PySem.W.mg_log (k := 39) (by omega)
  show (decide ((if j == 0 then 0 else j.natAbs.log2 / 30 + 1) > 300) && _) = false
  rw [if_neg hj, decide_eq_false (by omega), Bool.false_and]
theorem bm1 (v : Int) : B 40 (v % 2147483629) := by
  have t0 := Int.emod_nonneg v (show (2147483629 : Int) ≠ 0 by decide)
  have t1 := Int.emod_lt_of_pos v (show (0 : Int) < 2147483629 by decide)
  unfold B
  omega
theorem bm2 (s : Int) : B 40 (s % 6007 + 50021) := by
  have t0 := Int.emod_nonneg s (show (6007 : Int) ≠ 0 by decide)
  have t1 := Int.emod_lt_of_pos s (show (0 : Int) < 6007 by decide)
  unfold B
  omega
theorem r_draw : ∀ ds st Q, sp_draw ds st Q → b_draw { nx := fun _ s' => Q (.d .none) s', rt := Q } (startD N_draw ds) st := by
  intro ds st Q h
  unfold sp_draw at h
  split at h
  · rename_i p m
    obtain ⟨hm, hm2, n, xs, hst, ⟨x, y, z, rfl, h1, h2, h3, h4⟩, hn, k⟩ := h
    refine ⟨_, rfl, _, _, hst, rfl, trivial, ?_⟩
    show if decide (0 < x) = true then _ else _
    by_cases hx : 0 < x
    · rw [if_pos (decide_eq_true hx)]
      refine ⟨_, rfl, _, _, hst, rfl, _, rfl, small_div hm hm2, .inl ⟨rfl, _, rfl, _, 0, hst, rfl, rfl, _, rfl, .inl ?_⟩⟩
      exact k _ _ ⟨_, rfl, Int.emod_nonneg _ (by omega), Int.emod_lt_of_pos _ hm⟩ ⟨_, y, z, rfl, h1, h2, h3, by omega⟩
    · rw [if_neg (by simpa using hx)]
      have hz : 0 ≤ z + 1 := by omega
      refine ⟨_, rfl, _, _, hst, rfl, .inl ⟨_, rfl, _, 2, hst, rfl, ?_⟩⟩
      have e1 : (put st p ([I x, I y, I z].set 2 (I (z + 1)))) p = some [I x, I y, I (z + 1)] := put_same
      have bz : B 64 (z + 1) := by
        unfold B
        omega
      refine ⟨_, rfl, _, _, e1, rfl, _, rfl, _, _, e1, rfl, mulW (a := 20) (b := 64) (by unfold B; decide) bz (by decide) (by decide) (by decide), ⟨trivial, (show (0 : Int) < 2147483629 by decide), .inl ?_⟩⟩
      refine ⟨_, rfl, _, rfl, trivial, (show (0 : Int) < 6007 by decide), ?_⟩
      refine ⟨mulW (a := 40) (b := 40) (bm1 _) (bm2 _) (by decide) (by decide) (by decide), ?_⟩
      refine ⟨_, rfl, _, _, e1, rfl, mulW (a := 20) (b := 64) (by unfold B; decide) bz (by decide) (by decide) (by decide), trivial, (show (0 : Int) < 2147483629 by decide), .inl ?_⟩
      refine ⟨_, rfl, _, 1, e1, rfl, ?_⟩
      refine ⟨_, rfl, _, _, put_same, rfl, wide_div (b := 20) (by decide) (by decide) (by decide) (by decide), trivial, _, rfl, hm, .inl ?_⟩
      rw [put_put]
      exact k _ _ ⟨_, rfl, Int.emod_nonneg _ (by omega), Int.emod_lt_of_pos _ hm⟩ ⟨x, _, z + 1, rfl, Int.emod_nonneg _ (by decide), Int.emod_lt_of_pos _ (by decide), hz, by omega⟩
  · exact h.elim
end LB
namespace LB
open PySem PySem.Spec PyProof.Rows L2 DL
theorem cut_ints {α β : Type} (f : α → β) (xs : List α) (lo hi : Option Int) : cutP (xs.map f) lo hi = (cutP xs lo hi).map f := by
  unfold cutP
  rw [List.length_map, List.map_take, List.map_drop]
theorem mixB {m : Int} (h0 : 0 ≤ m) (h1 : m < 2147483629) : B 40 m := by
  unfold B
  omega
theorem r_spring (c : Int) (hc : 0 ≤ c) (hc2 : c < 1000000) : ∀ ds st Q, sp_spring ds st Q → b_spring c { nx := fun _ s' => Q (.d .none) s', rt := Q } (startD N_spring ds) st := by
  intro ds st Q h
  unfold sp_spring at h
  split at h
  · rename_i ns t
    obtain ⟨hl, h0, h1, k⟩ := h
    walk_at "st"
    have bt : B 40 t := by
      unfold B
      omega
    refine ⟨_, rfl, mulW (a := 40) (b := 40) (by unfold B; decide) bt (by decide) (by decide) (by decide), .inl ?_⟩
    refine ⟨_, rfl, ?_⟩
    refine ⟨fun _ e' st' => st' = st ∧ ∃ (m : Int) (c : Option D), e' = [some (.scr ns), some (.d (.int t)), some (I m), c, none] ∧ 0 ≤ m ∧ m < 2147483629, ⟨rfl, c + 9241 * t, none, rfl, by omega, by omega⟩, ?_⟩
    rintro i e' st' ⟨rfl, m, c, rfl, m0, m1⟩
    refine ⟨(fun a ds z => nomatch z), fun _ => ?_, fun d hd => ?_⟩
    · -- behind the loop
      have own : ∃ o : Int, ∀ (K : D → Sto → Prop), K (I o) st' → (dIf (dTst (dBin rLtD (dVar 1) (dCall cLen (dCons (dVar 0) dNil)))) (dCall cInt (dCons (dBin rIxD (dVar 0) (dVar 1)) dNil)) (dC (.int 0))) [some (.scr ns), some (.d (.int t)), some (I m), c, none] st' K := by
        by_cases ht : t < ns.length
        · have hlt : t.toNat < ns.length := by omega
          refine ⟨ns[t.toNat], fun K hK => ?_⟩
          refine ⟨_, rfl, _, rfl, _, rfl, trivial, ?_⟩
          show if decide (t < ((ns.map fun n => D.d (.int n)).length : Int)) = true then _ else _
          rw [if_pos (decide_eq_true (by rw [List.length_map]; exact ht))]
          refine ⟨_, rfl, _, rfl, _, D.d (.int ns[t.toNat]), rfl, ?_, trivial, hK⟩
          have e1 : ((t.toNat : Nat) : Int) = t := Int.toNat_of_nonneg h0
          have e2 := atI_nat (xs := ns.map fun n => D.d (.int n)) (j := t.toNat) (v := D.d (.int ns[t.toNat])) (by rw [List.getElem?_map, List.getElem?_eq_getElem hlt]; rfl)
          rw [e1] at e2
          exact e2
        · refine ⟨0, fun K hK => ?_⟩
          refine ⟨_, rfl, _, rfl, _, rfl, trivial, ?_⟩
          show if decide (t < ((ns.map fun n => D.d (.int n)).length : Int)) = true then _ else _
          rw [if_neg (by rw [List.length_map]; simpa using ht)]
          exact hK
      obtain ⟨o, ho⟩ := own
      refine ho _ (.inl ?_)
      unfold b_spring_4 b_spring_5
      walk_at "go"
      have mb := mixB m0 m1
      have q0 := Int.emod_nonneg o (show (2147483587 : Int) ≠ 0 by decide)
      have q1 := Int.emod_lt_of_pos o (show (0 : Int) < 2147483587 by decide)
      refine ⟨mulW (a := 40) (b := 40) mb (by unfold B; decide) (by decide) (by decide) (by decide), by decide, mulW (a := 40) (b := 40) (by unfold B; omega) (by unfold B; decide) (by decide) (by decide) (by decide), by decide, ?_⟩
      have fin : ∀ v w : Int, 0 ≤ w → w < 2147483629 → mkL [D.d (.int v), D.d (.int w), D.d (.int 0)] st' (frz Q) := fun v w h2 h3 => .inr fun p hp => .inl (k p _ hp ⟨v, w, 0, rfl, h2, h3, by omega, by omega⟩)
      have z0 := Int.emod_nonneg (m * 61 + o % 2147483587 * 30011 + 7) (show (2147483629 : Int) ≠ 0 by decide)
      have z1 := Int.emod_lt_of_pos (m * 61 + o % 2147483587 * 30011 + 7) (show (0 : Int) < 2147483629 by decide)
      have three : 3 ≤ sizeLine := by decide
      by_cases hneg : o < 0
      · rw [if_pos hneg]
        exact ⟨three, fin _ _ z0 z1⟩
      · rw [if_neg hneg]
        refine ⟨⟨by decide, by decide, by decide⟩, ?_⟩
        split
        · exact ⟨three, fin _ _ z0 z1⟩
        · exact ⟨three, fin _ _ z0 z1⟩
    · have hd' : (((cutP ns none (some 9)).map PyData.int).map D.d)[i]? = some d := hd
      rw [List.getElem?_map, List.getElem?_map] at hd'
      cases hc : (cutP ns none (some 9))[i]? with
      | none =>
        rw [hc] at hd'
        cases hd'
      | some v =>
        rw [hc] at hd'
        cases hd'
        show (dAsg _ _) _ _ _
        walk_at "go"
        refine ⟨mulW (a := 40) (b := 40) (mixB m0 m1) (by unfold B; decide) (by decide) (by decide) (by decide), by decide, by decide, _, some (D.d (.int v)), rfl, Int.emod_nonneg _ (by decide), Int.emod_lt_of_pos _ (by decide)⟩
  · exact h.elim
theorem r_one_of : ∀ ds st Q, sp_one_of ds st Q → b_one_of { nx := fun _ s' => Q (.d .none) s', rt := Q } (startD N_one_of ds) st := by
  intro ds st Q h
  unfold sp_one_of at h
  split at h
  · rename_i p xs
    obtain ⟨h0, h1, n, ys, hst, hy, hn, k⟩ := h
    refine ⟨_, rfl, _, rfl, _, rfl, _, rfl, by rw [List.length_map]; omega, by rw [List.length_map]; omega, n, ys, hst, hy, hn, ?_⟩
    rintro _ ys' ⟨i, rfl, i0, i1⟩ hy'
    rw [List.length_map] at i1
    have hlt : i.toNat < xs.length := by omega
    refine ⟨_, D.d xs[i.toNat], rfl, ?_, .inl (k _ ys' ⟨_, rfl, List.getElem_mem hlt⟩ hy')⟩
    have e1 : ((i.toNat : Nat) : Int) = i := Int.toNat_of_nonneg i0
    have e2 := atI_nat (xs := xs.map D.d) (j := i.toNat) (v := D.d xs[i.toNat]) (by rw [List.getElem?_map, List.getElem?_eq_getElem hlt]; rfl)
    rw [e1] at e2
    exact e2
  · rename_i p xs
    obtain ⟨h0, h1, n, ys, hst, hy, hn, k⟩ := h
    refine ⟨_, rfl, _, rfl, _, rfl, by omega, by omega, n, ys, hst, hy, hn, ?_⟩
    rintro _ ys' ⟨i, rfl, i0, i1⟩ hy'
    have hlt : i.toNat < xs.length := by omega
    refine ⟨xs[i.toNat], ?_, .inl (k _ ys' ⟨_, rfl, List.getElem_mem hlt⟩ hy')⟩
    have e1 : ((i.toNat : Nat) : Int) = i := Int.toNat_of_nonneg i0
    have e2 := atI_nat (xs := xs) (j := i.toNat) (List.getElem?_eq_getElem hlt)
    rw [e1] at e2
    exact e2
  · exact h.elim
theorem r_odd : ∀ ds st Q, sp_odd ds st Q → b_odd { nx := fun _ s' => Q (.d .none) s', rt := Q } (startD N_odd ds) st := by
  intro ds st Q h
  unfold sp_odd at h
  split at h
  · rename_i p
    obtain ⟨n, ys, hst, hy, hn, k⟩ := h
    refine ⟨by decide, by decide, by decide, by decide, by decide, by decide, by decide, by decide, by decide, by decide, .inl ⟨rfl, rfl, ?_⟩⟩
    dsimp only
    simp only [↓dSeq, ↓dAsg]
    apply lstV_then
    · walk_at "val"
    · decide
    · intro xs hl
      refine Or.inl ⟨_, rfl, _, rfl, ?_, ?_, n, ys, hst, hy, hn, fun d ys' hd hy' => .inl (k d ys' (let ⟨x, e, _⟩ := hd; ⟨x, e⟩) hy')⟩
      · rw [hl]
        decide
      · rw [hl]
        decide
  · exact h.elim
theorem r_divisor : ∀ ds st Q, sp_divisor ds st Q → b_divisor { nx := fun _ s' => Q (.d .none) s', rt := Q } (startD N_divisor ds) st := by
  intro ds st Q h
  unfold sp_divisor at h
  split at h
  · rename_i a b
    walk_at "st"
    refine ⟨_, rfl, trivial, _, rfl, trivial, ?_⟩
    refine ⟨fun m e' st' => st' = st ∧ ∃ f : Nat, e' = [some (I a), some (I b), some (I f), some (I m)] ∧ Nat.gcd f m = Nat.gcd a.natAbs b.natAbs, ⟨b.natAbs, rfl, a.natAbs, ?_, rfl⟩, ?_⟩
    · have ha : (if a < 0 then -a else a) = (a.natAbs : Int) := by split <;> omega
      have hb : (if b < 0 then -b else b) = (b.natAbs : Int) := by split <;> omega
      show [_, _, some (D.d (.int (if a < 0 then -a else a))), some (D.d (.int (if b < 0 then -b else b)))] = _
      rw [ha, hb]
    · rintro m e' st' ⟨rfl, f, rfl, hg⟩
      refine ⟨_, rfl, ?_⟩
      show if (!decide ((m : Int) = 0)) = true then _ else _
      by_cases hm : m = 0
      · subst hm
        rw [if_neg (by decide)]
        rw [Nat.gcd_zero_right] at hg
        refine ⟨_, rfl, .inl ?_⟩
        show Q (I (f : Int)) st'
        rw [hg]
        exact h
      · rw [if_pos (by simpa using hm)]
        refine ⟨_, rfl, _, rfl, trivial, _, rfl, by omega, f % m, Nat.mod_lt _ (Nat.pos_of_ne_zero hm), rfl, m, ?_, ?_⟩
        · show [_, _, some (I (m : Int)), some (D.d (.int ((f : Int) % (m : Int))))] = _
          rw [← Int.natCast_emod]
        · rw [Nat.gcd_comm, ← Nat.gcd_rec, Nat.gcd_comm]
          exact hg
  · exact h.elim
end LB
namespace LB
open PySem PySem.Spec PyProof.Rows L2 DL
theorem is_then {T : String} (hT : ∀ d, (kitB (tyD d) T).isSome = true) {i : Nat} {e : Ed} {st : Sto} {Q : Kd} {x : PyData} (h : e[i]? = some (some (.d x))) (q : Q (.d (.bool (isT T (.d x)))) st) : dIs T (dVar i) e st Q := ⟨_, h, (fun a z => nomatch z), hT _, q⟩
theorem kt (d : D) : (kitB (tyD d) "tuple").isSome = true := kit_all (by decide +kernel) d
theorem ki (d : D) : (kitB (tyD d) "int").isSome = true := kit_all (by decide +kernel) d
theorem cutP_len {α : Type} (xs : List α) (lo hi : Option Int) : (cutP xs lo hi).length ≤ xs.length := by
  unfold cutP
  rw [List.length_take, List.length_drop]
  omega
theorem at_small {α : Type} {xs : List α} {i : Int} (h0 : 0 ≤ i) (h1 : i < xs.length) : ∃ x, x ∈ xs ∧ atI xs i = some x := by
  have hlt : i.toNat < xs.length := by omega
  have e1 : ((i.toNat : Nat) : Int) = i := Int.toNat_of_nonneg h0
  have e2 := atI_nat (xs := xs) (j := i.toNat) (List.getElem?_eq_getElem hlt)
  rw [e1] at e2
  exact ⟨_, List.getElem_mem hlt, e2⟩
theorem big_ok {n : Nat} (h : n ≤ 3000) : n ≤ sizeLine := Nat.le_trans h (by decide)
theorem r_bent (k : Nat) (self : SpD) (hs : ∀ j, k = j + 1 → ∀ ds st Q, sp_bentK j ds st Q → self ds st Q) : ∀ ds st Q, sp_bentK k ds st Q → b_bent self { nx := fun _ s' => Q (.d .none) s', rt := Q } (startD N_bent ds) st := by
  intro ds st Q h
  unfold sp_bentK at h
  split at h
  · rename_i p x
    obtain ⟨hx, n, ys, hst, hy, hn, kk⟩ := h
    show b_bent self _ [some (.own p), some (.d x), none, none] st
    -- what follows a draw from nine
    have rest : ∀ (ys : List D) (st : Sto), st p = some ys → SprL ys (n + 2 * k) → (∀ d xs', (∃ x, d = D.d x) → SprL xs' (n + (2 * k + 2)) → Q d (put st p xs')) →
        (dSeq (b_bent_2 self) (dSeq (b_bent_3 self) (dSeq (b_bent_4 self) (b_bent_5 self)))) { nx := fun _ s' => Q (.d .none) s', rt := Q } [some (.own p), some (.d x), none, none] st := by
      intro ys st hst hy kk
      refine ⟨_, rfl, by decide, by decide, n + 2 * k, ys, hst, hy, by omega, ?_⟩
      rintro _ zs ⟨i, rfl, i0, i1⟩ hz
      refine .inl ?_
      have kk1 : ∀ x, Q (.d x) (put st p zs) := fun x => by
        have := kk (.d x) zs ⟨x, rfl⟩ (hz.mono (by omega))
        exact this
      have last : (b_bent_5 self) { nx := fun _ s' => Q (.d .none) s', rt := Q } [some (.own p), some (.d x), none, some (I i)] (put st p zs) := by
        refine ⟨_, rfl, n + 2 * k + 1, zs, put_same, hz, by omega, ?_⟩
        rintro _ ws ⟨w, rfl⟩ hw
        rw [put_put]
        exact .inl (kk _ ws ⟨w, rfl⟩ hw)
      have four : (∀ xs, x ≠ .tuple xs) → (dSeq (b_bent_4 self) (b_bent_5 self)) { nx := fun _ s' => Q (.d .none) s', rt := Q } [some (.own p), some (.d x), none, some (I i)] (put st p zs) := by
        intro nt
        cases x with
        | int v =>
          unfold b_bent_4
          walk_at "go"
          have bv : B 1000 v := by
            cases k <;> exact hx
          split
          · refine ⟨mulW (a := 20) (b := 1000) (by unfold B; decide) bv (by decide) (by decide) (by decide), ?_, ?_, ?_⟩
            · have := PySem.Flt.log2_lt_of (by decide : 0 < 1000) bv
              omega
            · exact big_ok (by decide)
            · obtain ⟨z, hz1, hz2⟩ := at_small (xs := [PyData.int (v + 1), .int (0 - v), .int (2 * v), .int (v - 2), .bool (decide (v = 1)), .str (toString v : String)]) i0 (by simpa using (by omega))
              exact ⟨z, hz2, .inl (kk1 z)⟩
          · exact last
        | tuple xs => exact absurd rfl (nt xs)
        | bool b => exact absurd hx (by cases k <;> exact id)
        | _ =>
          unfold b_bent_4
          walk_at "go"
          exact last
      cases x with
      | tuple xs =>
        have hl : xs.length ≤ 1000 := by
          cases k with
          | zero => exact hx.elim
          | succ k => exact hx.1
        unfold b_bent_3 b_bent_4
        walk_at "go"
        split
        · have c1 := cutP_len xs (some (-1)) none
          have c2 := cutP_len xs none (some 1)
          refine ⟨big_ok (by omega), big_ok (by omega), big_ok (by decide), big_ok (by decide), ?_⟩
          obtain ⟨z, hz1, hz2⟩ := at_small (xs := [PyData.list xs, .tuple (cutP xs none (some (-1))), .tuple (xs ++ cutP xs (some (-1)) none), .tuple xs.reverse, .tuple (cutP xs (some 1) none), .tuple (cutP xs none (some 1) ++ xs), .tuple [.tuple xs]]) i0 (by simpa using (by omega))
          exact ⟨z, hz2, .inl (kk1 z)⟩
        · exact last
      | _ =>
        unfold b_bent_3
        walk_at "go"
        exact four (fun _ => (nomatch ·))
    have go2 : ∀ (ys : List D) (st' : Sto), (∀ d xs', (∃ x, d = D.d x) → SprL xs' (n + (2 * k + 2)) → Q d (put st' p xs')) → st' p = some ys → SprL ys (n + 2 * k) →
        (dSeq (b_bent_2 self) (dSeq (b_bent_3 self) (dSeq (b_bent_4 self) (b_bent_5 self)))) { nx := fun _ s' => Q (.d .none) s', rt := Q } [some (.own p), some (.d x), none, none] st' := fun ys st' kk hst hy => rest ys st' hst hy kk
    have skip := go2 ys st (fun d xs' hd h => kk d xs' hd h) hst (hy.mono (by omega))
    cases x with
    | tuple xs =>
      obtain ⟨j, rfl⟩ : ∃ j, k = j + 1 := by
        cases k with
        | zero => exact hx.elim
        | succ j => exact ⟨j, rfl⟩
      obtain ⟨hl, hsh, hpl⟩ := hx
      refine is_then kt rfl ?_
      rw [is_tuple]
      refine ⟨_, rfl, big_ok (by decide), hsh, by simp [SeqAt.shaped, PyData.canLay0, PyData.canLayAll0, PyData.depth, PyData.depthAll], ?_⟩
      cases xs with
      | nil => exact skip
      | cons x0 xs =>
        refine ⟨_, rfl, by decide, by decide, n, ys, hst, hy, by omega, ?_⟩
        rintro _ zs ⟨i, rfl, i0, i1⟩ hz
        refine ⟨trivial, ?_⟩
        show if decide (0 < i) = true then _ else _
        by_cases hi : 0 < i
        · rw [if_pos (decide_eq_true hi)]
          have hlen : (0 : Int) < ((x0 :: xs).length : Nat) := by
            rw [List.length_cons]
            omega
          refine ⟨_, rfl, _, rfl, hlen, by omega, n + 1, zs, put_same, hz, by omega, ?_⟩
          rintro _ ws ⟨a, rfl, a0, a1⟩ hw
          rw [put_put]
          refine .inl ⟨_, rfl, _, rfl, _, rfl, _, rfl, _, rfl, ?_⟩
          obtain ⟨y, y1, y2⟩ := at_small (xs := x0 :: xs) a0 a1
          refine ⟨y, y2, hs j rfl _ _ _ ⟨hpl y y1, n + 2, ws, put_same, hw, by omega, ?_⟩⟩
          rintro _ vs ⟨z, rfl⟩ hv
          rw [put_put]
          have c1 := cutP_len (x0 :: xs) none (some a)
          have c2 := cutP_len (x0 :: xs) (some (a + 1)) none
          refine ⟨big_ok (by show 1 ≤ 3000; omega), big_ok (by simp only [List.length_cons, List.length_nil] at *; omega), _, rfl, _, rfl, big_ok (by simp only [List.length_cons, List.length_nil, List.length_append] at *; omega), .inl ?_⟩
          exact kk _ vs ⟨_, rfl⟩ (hv.mono (by omega))
        · rw [if_neg (by simpa using hi)]
          refine go2 zs _ (fun d xs' hd h => ?_) put_same (hz.mono (by omega))
          rw [put_put]
          exact kk d xs' hd h
    | _ =>
      refine is_then kt rfl ?_
      rw [is_tuple]
      exact skip
  · exact h.elim
end LB
namespace LB
open PySem PySem.Spec PyProof.Rows L2 DL
theorem B_mul {a b n : Nat} {i j : Int} (h : B a i) (g : B b j) (hn : a + b ≤ n) : B n (i * j) := Nat.lt_of_lt_of_le (wide_lt h g) (Nat.pow_le_pow_right (by decide) hn)
theorem B_mono {a n : Nat} {i : Int} (h : B a i) (hn : a ≤ n) : B n i := Nat.lt_of_lt_of_le h (Nat.pow_le_pow_right (by decide) hn)
theorem B_sub {a b n : Nat} {i j : Int} (h : B a i) (g : B b j) (h1 : a + 1 ≤ n) (h2 : b + 1 ≤ n) : B n (i - j) := by
  have h := B_mono h (n := n - 1) (by omega)
  have g := B_mono g (n := n - 1) (by omega)
  unfold B at *
  have e : 2 ^ n = 2 ^ (n - 1) + 2 ^ (n - 1) := by
    rw [← Nat.two_mul, Nat.mul_comm, ← Nat.pow_succ]
    congr 1
    omega
  rw [e]
  omega
theorem B_add {a b n : Nat} {i j : Int} (h : B a i) (g : B b j) (h1 : a + 1 ≤ n) (h2 : b + 1 ≤ n) : B n (i + j) := by
  have := B_sub h (j := -j) (by unfold B at *; rw [Int.natAbs_neg]; exact g) h1 h2
  rw [Int.sub_neg] at this
  exact this
theorem B_div {a : Nat} {i j : Int} (h : B a i) : B a (i / j) := Nat.lt_of_le_of_lt (Int.natAbs_ediv_le_natAbs i j) h
theorem gc_pos {a b : Int} (h : 0 < b) : 0 < gc a b := by
  have : 0 < Nat.gcd a.natAbs b.natAbs := Nat.gcd_pos_of_pos_right _ (by omega)
  unfold gc
  omega
theorem gc_le {a b : Int} (h : 0 < b) : gc a b ≤ b := by
  have : Nat.gcd a.natAbs b.natAbs ≤ b.natAbs := Nat.le_of_dvd (by omega) (Nat.gcd_dvd_right _ _)
  unfold gc
  omega
theorem gc_B {n : Nat} {a b : Int} (h : 0 < b) (hb : B n b) : B n (gc a b) := by
  have h1 := gc_pos (a := a) h
  have h2 := gc_le (a := a) h
  unfold B at *
  omega
theorem divW {n : Nat} {i j : Int} (h : 0 < j) (hb : B n j) (h0 : 0 < n) (h9 : n ≤ 9000) : CDivW i j := wide_div h hb h0 h9
theorem r_part : ∀ ds st Q, sp_part ds st Q → b_part { nx := fun _ s' => Q (.d .none) s', rt := Q } (startD N_part ds) st := by
  intro ds st Q h
  unfold sp_part at h
  split at h
  · rename_i t b
    obtain ⟨h0, ht, hb, q⟩ := h
    walk_at "st"
    unfold b_part b_part_1 b_part_2
    walk_at "gk"
    rw [if_pos h0]
    have g := gc_pos (a := t) h0
    have gb := gc_B (a := t) h0 hb
    exact ⟨divW g gb (by decide) (by decide), divW g gb (by decide) (by decide), big_ok (by decide), q⟩
  · exact h.elim
theorem gc_neg {a b : Int} : gc (-a) (-b) = gc a b := by
  unfold gc
  rw [Int.natAbs_neg, Int.natAbs_neg]
theorem gc_neg3 {x y w : Int} : gc (gc (-x) (-y)) (-w) = gc (gc x y) w := by
  unfold gc
  rw [Int.natAbs_neg, Int.natAbs_neg, Int.natAbs_neg]
theorem gc_dvd3 (x y w : Int) : gc (gc x y) w ∣ x ∧ gc (gc x y) w ∣ y ∧ gc (gc x y) w ∣ w := by
  have dl : ∀ a b : Int, gc a b ∣ a := fun a b => by
    unfold gc
    exact Int.ofNat_dvd_left.mpr (Nat.gcd_dvd_left _ _)
  have dr : ∀ a b : Int, gc a b ∣ b := fun a b => by
    unfold gc
    exact Int.ofNat_dvd_left.mpr (Nat.gcd_dvd_right _ _)
  exact ⟨Int.dvd_trans (dl _ _) (dl _ _), Int.dvd_trans (dl _ _) (dr _ _), dr _ _⟩
theorem fdiv_neg' {g x : Int} (h : g ∣ x) : Int.fdiv x (0 - g) = -x / g := by
  have h' : (0 - g) ∣ x := by
    rw [Int.zero_sub]
    exact (Int.neg_dvd).mpr h
  rw [Int.fdiv_eq_ediv_of_dvd h', Int.zero_sub, Int.ediv_neg]
  obtain ⟨k, rfl⟩ := h
  by_cases z : g = 0
  · subst z
    simp
  · rw [Int.mul_ediv_cancel_left _ z, ← Int.mul_neg, Int.mul_ediv_cancel_left _ z]
theorem fdiv_pos' {g x : Int} (h : 0 < g) : Int.fdiv x g = x / g := Int.fdiv_eq_ediv_of_nonneg x (by omega)
theorem divF {n : Nat} {i j : Int} (h : j ≠ 0) (hb : B n j) (h0 : 0 < n) (h9 : n ≤ 9000) : CDivF i j := ⟨h, Nat.lt_of_lt_of_le (PySem.Flt.log2_lt_of h0 hb) h9⟩
theorem gc_pos' {a b : Int} (h : b ≠ 0) : 0 < gc a b := by
  have : 0 < Nat.gcd a.natAbs b.natAbs := Nat.gcd_pos_of_pos_right _ (by omega)
  unfold gc
  omega
theorem gc_B' {n : Nat} {a b : Int} (h : b ≠ 0) (hb : B n b) : B n (gc a b) := by
  have h1 := gc_pos' (a := a) h
  have : Nat.gcd a.natAbs b.natAbs ≤ b.natAbs := Nat.le_of_dvd (by omega) (Nat.gcd_dvd_right _ _)
  unfold B gc at *
  omega
theorem r_place : ∀ ds st Q, sp_place ds st Q → b_place { nx := fun _ s' => Q (.d .none) s', rt := Q } (startD N_place ds) st := by
  intro ds st Q h
  unfold sp_place at h
  split at h
  · rename_i x y w
    obtain ⟨h0, hx, hy, hw, q⟩ := h
    walk_at "st"
    unfold b_place b_place_1 b_place_2
    walk_at "gk"
    have g := gc_pos' (a := gc x y) h0
    have gb := gc_B' (a := gc x y) h0 hw
    obtain ⟨d1, d2, d3⟩ := gc_dvd3 x y w
    by_cases hp : 0 < w
    · rw [if_pos hp]
      have d : ∀ i, CDivF i (gc (gc x y) w) := fun i => divF (by omega) gb (by decide) (by decide)
      rw [placeS, if_pos hp] at q
      rw [fdiv_pos' g, fdiv_pos' g, fdiv_pos' g]
      exact ⟨d _, d _, d _, big_ok (by decide), q⟩
    · rw [if_neg hp]
      have d : ∀ i, CDivF i (0 - gc (gc x y) w) := fun i => divF (n := 8000) (by omega) (by unfold B at *; omega) (by decide) (by decide)
      rw [placeS, if_neg hp] at q
      unfold placeT at q
      rw [gc_neg3] at q
      rw [fdiv_neg' d1, fdiv_neg' d2, fdiv_neg' d3]
      exact ⟨d _, d _, d _, big_ok (by decide), q⟩
  · exact h.elim
theorem B_big {i : Int} (h : B 1600 i) : i.natAbs < big9 := by
  unfold big9
  exact B_mono h (by decide)
theorem fr_eqv {a b c d : Int} : PyData.eqv (fr a b) (fr c d) = (decide (a = c) && decide (b = d)) := by
  rw [Bool.eq_iff_iff]
  simp [fr, PyData.eqv, PyData.eqvAll]
theorem fr_sh {a b : Int} : SeqAt.shaped (fr a b) = true := by
  simp [fr, SeqAt.shaped, PyData.canLay0, PyData.canLayAll0, PyData.depth, PyData.depthAll]
theorem pt_sh {p : Pt} : SeqAt.shaped p.py = true := by
  simp [Pt.py, fr, SeqAt.shaped, PyData.canLay0, PyData.canLayAll0, PyData.depth, PyData.depthAll]
theorem pt_eqv {p q : Pt} : PyData.eqv p.py q.py = decide (p = q) := by
  rw [Bool.eq_iff_iff]
  obtain ⟨a, b, c, d⟩ := p
  obtain ⟨a', b', c', d'⟩ := q
  simp [Pt.py, fr, PyData.eqv, PyData.eqvAll, and_assoc]
theorem r_told : ∀ ds st Q, sp_told ds st Q → b_told { nx := fun _ s' => Q (.d .none) s', rt := Q } (startD N_told ds) st := by
  intro ds st Q h
  unfold sp_told at h
  split at h
  · rename_i x y w
    obtain ⟨⟨h0, hx, hy, hw⟩, q⟩ := h
    walk_at "st"
    unfold b_told
    walk_at "gk"
    have m : ∀ {i}, B 1600 i → B 8000 i := fun h => B_mono h (by decide)
    exact ⟨h0, m hx, m hw, h0, m hy, m hw, big_ok (by decide), q⟩
  · exact h.elim
theorem r_own : ∀ ds st Q, sp_own ds st Q → b_own { nx := fun _ s' => Q (.d .none) s', rt := Q } (startD N_own ds) st := by
  intro ds st Q h
  unfold sp_own at h
  split at h
  · rename_i a b c d
    obtain ⟨h0, h1, ba, bb, bc, bd, q⟩ := h
    walk_at "st"
    unfold b_own b_own_1 b_own_2
    walk_at "gk"
    have m : ∀ {i j}, B 1600 i → B 1600 j → CMulW i j := fun h g => mulW h g (by decide) (by decide) (by decide)
    have n : ∀ {i j}, B 1600 i → B 1600 j → B 8000 (i * j) := fun h g => B_mul h g (by decide)
    have pos := Int.mul_pos h0 h1
    refine ⟨m ba bd, m bc bb, m bb bd, Int.ne_of_gt pos, n ba bd, n bc bb, n bb bd, ?_⟩
    rw [placeS, if_pos pos]
    exact q
  · exact h.elim
theorem r_side : ∀ ds st Q, sp_side ds st Q → b_side { nx := fun _ s' => Q (.d .none) s', rt := Q } (startD N_side ds) st := by
  intro ds st Q h
  unfold sp_side at h
  split at h
  · rename_i x y w x' y' w' x'' y'' w''
    obtain ⟨⟨h1, h2, h3⟩, ⟨h4, h5, h6⟩, ⟨h7, h8, h9⟩, q⟩ := h
    walk_at "st"
    unfold b_side b_side_1 b_side_2
    walk_at "gk"
    have m : ∀ {i j}, B 4000 i → B 4000 j → CMulW i j := fun h g => mulW h g (by decide) (by decide) (by decide)
    have n : ∀ {i j}, B 4000 i → B 4000 j → B 8000 (i * j) := fun h g => B_mul h g (by decide)
    have m3 : ∀ {i j k l u}, B 4000 u → B 4000 i → B 4000 j → B 4000 k → B 4000 l → CMulW u (i * j - k * l) := fun g1 g2 g3 g4 g5 => mulW g1 (B_sub (n := 8001) (n g2 g3) (n g4 g5) (by decide) (by decide)) (by decide) (by decide) (by decide)
    exact ⟨m h5 h9, m h8 h6, m3 h1 h5 h9 h8 h6, m h4 h9, m h7 h6, m3 h2 h4 h9 h7 h6, m h4 h8, m h7 h5, m3 h3 h4 h8 h7 h5, q⟩
  · exact h.elim
theorem r_l_is_less : ∀ ds st Q, sp_l_is_less ds st Q → b_l_is_less { nx := fun _ s' => Q (.d .none) s', rt := Q } (startD N_l_is_less ds) st := by
  intro ds st Q h
  unfold sp_l_is_less at h
  split at h
  · rename_i x y w x' y' w'
    obtain ⟨⟨h1, h2, h3⟩, ⟨h4, h5, h6⟩, q⟩ := h
    walk_at "st"
    unfold b_l_is_less b_l_is_less_1 b_l_is_less_2
    walk_at "gk"
    have m : ∀ {i j}, B 4000 i → B 4000 j → CMulW i j := fun h g => mulW h g (by decide) (by decide) (by decide)
    unfold lessT at q
    refine ⟨m h1 h6, m h4 h3, ?_⟩
    by_cases e : x * w' = x' * w
    · simpa [e, m h2 h6, m h5 h3] using q
    · simpa [e, m h1 h6, m h4 h3] using q
  · exact h.elim
theorem r_l_sign : ∀ ds st Q, sp_l_sign ds st Q → b_l_sign { nx := fun _ s' => Q (.d .none) s', rt := Q } (startD N_l_sign ds) st := by
  intro ds st Q h
  unfold sp_l_sign at h
  split at h
  · rename_i n
    walk_at "st"
    unfold b_l_sign
    walk_at "gk"
    unfold sgn at h
    by_cases h1 : 0 < n
    · rw [if_pos h1]
      rw [if_neg (by omega), if_pos h1] at h
      exact h
    · rw [if_neg h1]
      by_cases h2 : n = 0
      · rw [if_pos h2] at h ⊢
        exact h
      · rw [if_neg h2] at h ⊢
        rw [if_neg h1] at h
        exact h
  · exact h.elim
theorem r_sign : ∀ ds st Q, sp_sign ds st Q → b_sign { nx := fun _ s' => Q (.d .none) s', rt := Q } (startD N_sign ds) st := by
  intro ds st Q h
  unfold sp_sign sp_l_sign at h
  split at h
  · rename_i n
    walk_at "st"
    unfold b_sign b_sign_1 b_sign_2
    walk_at "gk"
    unfold sgn at h
    by_cases h2 : n = 0
    · rw [if_pos h2] at h ⊢
      exact h
    · rw [if_neg h2] at h ⊢
      by_cases h1 : 0 < n
      · rw [if_pos h1] at h ⊢
        exact h
      · rw [if_neg h1] at h ⊢
        exact h
  · exact h.elim
theorem lcm_B {a b : Int} (ha : B 1600 a) (hb : B 1600 b) : B 3200 ((Nat.lcm a.natAbs b.natAbs : Nat) : Int) := by
  have h1 : Nat.lcm a.natAbs b.natAbs ≤ a.natAbs * b.natAbs := PySem.W.mc_lcm_le _ _
  have h2 : B 3200 (a * b) := B_mul ha hb (by decide)
  unfold B at *
  rw [Int.natAbs_mul] at h2
  rw [Int.natAbs_natCast]
  exact Nat.lt_of_le_of_lt h1 h2
theorem r_scaled : ∀ ds st Q, sp_scaled ds st Q → b_scaled { nx := fun _ s' => Q (.d .none) s', rt := Q } (startD N_scaled ds) st := by
  intro ds st Q h
  unfold sp_scaled at h
  split at h
  · rename_i a b c d
    obtain ⟨h0, h1, ba, bb, bc, bd, q⟩ := h
    walk_at "st"
    unfold b_scaled b_scaled_1 b_scaled_2 b_scaled_3
    walk_at "gk"
    have l := lcm_B bb bd
    exact ⟨⟨B_big bb, B_big bd⟩, divW h0 bb (by decide) (by decide), mulW ba (B_div l) (by decide) (by decide) (by decide), divW h1 bd (by decide) (by decide), mulW bc (B_div l) (by decide) (by decide) (by decide), big_ok (by decide), q⟩
  · exact h.elim
theorem r_crossed : ∀ ds st Q, sp_crossed ds st Q → b_crossed { nx := fun _ s' => Q (.d .none) s', rt := Q } (startD N_crossed ds) st := by
  intro ds st Q h
  unfold sp_crossed at h
  split at h
  · rename_i x y w x' y' w'
    obtain ⟨⟨h1, h2, h3⟩, ⟨h4, h5, h6⟩, q⟩ := h
    walk_at "st"
    unfold b_crossed
    walk_at "gk"
    have m : ∀ {i j}, B 8000 i → B 8000 j → CMulW i j := fun h g => mulW h g (by decide) (by decide) (by decide)
    exact ⟨m h2 h6, m h3 h5, m h3 h4, m h1 h6, m h1 h5, m h2 h4, big_ok (by decide), q⟩
  · exact h.elim
theorem r_along : ∀ ds st Q, sp_along ds st Q → b_along { nx := fun _ s' => Q (.d .none) s', rt := Q } (startD N_along ds) st := by
  intro ds st Q h
  unfold sp_along at h
  split at h
  · rename_i x y w x' y' w'
    obtain ⟨⟨h1, h2, h3⟩, ⟨h4, h5, h6⟩, q⟩ := h
    walk_at "st"
    unfold b_along
    walk_at "gk"
    have m : ∀ {i j}, B 20000 i → B 20000 j → CMulW i j := fun h g => mulW h g (by decide) (by decide) (by decide)
    exact ⟨m h1 h4, m h2 h5, m h3 h6, q⟩
  · exact h.elim
theorem r_is_less : ∀ ds st Q, sp_is_less ds st Q → b_is_less { nx := fun _ s' => Q (.d .none) s', rt := Q } (startD N_is_less ds) st := by
  intro ds st Q h
  unfold sp_is_less at h
  split at h
  · rename_i a b c d
    obtain ⟨⟨h1, h2, h3, h4⟩, q⟩ := h
    walk_at "st"
    unfold b_is_less
    walk_at "gk"
    have m : ∀ {i j}, B 1600 i → B 1600 j → CMulW i j := fun h g => mulW h g (by decide) (by decide) (by decide)
    exact ⟨m h1 h4, m h3 h2, q⟩
  · exact h.elim
theorem r_is_fraction : ∀ ds st Q, sp_is_fraction ds st Q → b_is_fraction { nx := fun _ s' => Q (.d .none) s', rt := Q } (startD N_is_fraction ds) st := by
  intro ds st Q h
  unfold sp_is_fraction at h
  split at h
  · rename_i x
    walk_at "st"
    unfold b_is_fraction b_is_fraction_1 b_is_fraction_2
    have nt : isRow 2 2 x = false → isFr x = false := fun h => by
      cases x with
      | tuple xs =>
        match xs, h with
        | [], _ => rfl
        | [u], _ => cases u <;> rfl
        | [u, v], h => cases h
        | u :: v :: _ :: _, _ => cases u <;> cases v <;> rfl
      | _ => rfl
    cases hr : isRow 2 2 x with
    | false =>
      rw [nt hr] at h
      walk_at "gk"
      rw [hr]
      exact h
    | true =>
      cases x with
      | tuple xs =>
        match xs, hr with
        | [u, v], hr =>
          walk_at "gk"
          rw [hr]
          cases u with
          | int a =>
            cases v with
            | int b =>
              simp only [isW]
              walk_at "gk"
              simp only [isFr] at h
              by_cases hb : 0 < b
              · rw [decide_eq_true hb, Bool.true_and] at h
                change Q (D.d (.bool (decide (((Nat.gcd a.natAbs b.natAbs : Nat) : Int) = 1)))) st at h
                simpa [hb] using h
              · rw [decide_eq_false hb, Bool.false_and] at h
                simpa [hb] using h
            | _ => simpa [isW, isFr] using h
          | _ => simpa [isW, isFr] using h
        | _ :: _ :: _ :: r, hr =>
          simp [isRow] at hr
          omega
      | _ => cases hr
  · exact h.elim
end LB
namespace LB
open PySem PySem.Spec PyProof.Rows L2 DL
theorem r_l_is_whole : ∀ ds st Q, sp_l_is_whole ds st Q → b_l_is_whole { nx := fun _ s' => Q (.d .none) s', rt := Q } (startD N_l_is_whole ds) st := r_is_whole
theorem r_is_lot : ∀ ds st Q, sp_is_lot ds st Q → b_is_lot { nx := fun _ s' => Q (.d .none) s', rt := Q } (startD N_is_lot ds) st := r_is_row
theorem row2 {x : PyData} (h : isRow 2 2 x = true) : ∃ u v, x = .tuple [u, v] := by
  cases x with
  | tuple xs =>
    match xs, h with
    | [], h => cases h
    | [u], h => cases h
    | [u, v], h => exact ⟨u, v, rfl⟩
    | u :: v :: w :: r, h =>
      simp [isRow] at h
      omega
  | _ => cases h
theorem row2_fr {x : PyData} (h : isRow 2 2 x = false) : isFr x = false := by
  cases x with
  | tuple xs =>
    match xs, h with
    | [], _ => rfl
    | [u], _ => cases u <;> rfl
    | [u, v], h => cases h
    | u :: v :: _ :: _, _ => cases u <;> cases v <;> rfl
  | _ => rfl
theorem row2_pl {x : PyData} (h : isRow 2 2 x = false) : isPl x = false := by
  cases x with
  | tuple xs =>
    match xs, h with
    | [], _ => rfl
    | [u], _ => rfl
    | [u, v], h => cases h
    | u :: v :: _ :: _, _ => rfl
  | _ => rfl
def unB (f : PyData → Bool) : D → PyData
  | .d x => .bool (f x)
  | _ => .none
theorem all_two {f : PyData → Bool} {u v : PyData} : ([u, v].map D.d).map (unB f) = [f u, f v].map PyData.bool := rfl
theorem r_l_is_fraction : ∀ ds st Q, sp_l_is_fraction ds st Q → b_l_is_fraction { nx := fun _ s' => Q (.d .none) s', rt := Q } (startD N_l_is_fraction ds) st := by
  intro ds st Q h
  unfold sp_l_is_fraction sp_is_fraction at h
  split at h
  · rename_i x
    walk_at "st"
    unfold b_l_is_fraction b_l_is_fraction_1 b_l_is_fraction_2
    cases hr : isRow 2 2 x with
    | false =>
      rw [row2_fr hr] at h
      walk_at "gk"
      rw [hr]
      exact h
    | true =>
      obtain ⟨u, v, rfl⟩ := row2 hr
      walk_at "gk"
      rw [hr]
      simp only [if_true, Bool.not_true, Bool.false_eq_true, if_false]
      refine lcV_pure [.d u, .d v] (unB isW) (fun R hR => ⟨_, rfl, hR⟩) (by show 2 < sizeLine; decide) ?_ ⟨[isW u, isW v], rfl, ?_⟩
      · intro d hd K k
        rcases List.mem_cons.mp hd with rfl | hd
        · exact ⟨_, rfl, k⟩
        · rcases List.mem_cons.mp hd with rfl | hd
          · exact ⟨_, rfl, k⟩
          · cases hd
      · show if (!([isW u, isW v].all _root_.id)) = true then _ else _
        cases u with
        | int a =>
          cases v with
          | int b =>
            rw [if_neg (by simp [isW])]
            dsimp only
            simp only [isFr] at h
            by_cases hb : 0 < b
            · rw [decide_eq_true hb, Bool.true_and] at h
              simpa [hb] using h
            · rw [decide_eq_false hb, Bool.false_and] at h
              simpa [hb] using h
          | _ => simpa [isW, isFr] using h
        | _ => simpa [isW, isFr] using h
  · exact h.elim
theorem r_is_place : ∀ ds st Q, sp_is_place ds st Q → b_is_place { nx := fun _ s' => Q (.d .none) s', rt := Q } (startD N_is_place ds) st := by
  intro ds st Q h
  unfold sp_is_place at h
  split at h
  · rename_i x
    walk_at "st"
    unfold b_is_place
    cases hr : isRow 2 2 x with
    | false =>
      rw [row2_pl hr] at h
      walk_at "gk"
      rw [hr]
      exact h
    | true =>
      obtain ⟨u, v, rfl⟩ := row2 hr
      walk_at "gk"
      rw [hr]
      simp only [isPl] at h
      cases hu : isFr u <;> simpa [hu] using h
  · exact h.elim
theorem r_is_told : ∀ ds st Q, sp_is_told ds st Q → b_is_told { nx := fun _ s' => Q (.d .none) s', rt := Q } (startD N_is_told ds) st := by
  intro ds st Q h
  unfold sp_is_told sp_is_place at h
  split at h
  · rename_i x
    walk_at "st"
    unfold b_is_told
    cases hr : isRow 2 2 x with
    | false =>
      rw [row2_pl hr] at h
      walk_at "gk"
      rw [hr]
      exact h
    | true =>
      obtain ⟨u, v, rfl⟩ := row2 hr
      walk_at "gk"
      rw [hr]
      simp only [isPl] at h
      simp only [if_true, Bool.not_true, Bool.false_eq_true, if_false]
      refine lcV_pure [.d u, .d v] (unB isFr) (fun R hR => ⟨_, rfl, hR⟩) (by show 2 < sizeLine; decide) ?_ ⟨[isFr u, isFr v], rfl, ?_⟩
      · intro d hd K k
        rcases List.mem_cons.mp hd with rfl | hd
        · exact ⟨_, rfl, k⟩
        · rcases List.mem_cons.mp hd with rfl | hd
          · exact ⟨_, rfl, k⟩
          · cases hd
      · simpa using h
  · exact h.elim
theorem r_is_point : ∀ ds st Q, sp_is_point ds st Q → b_is_point { nx := fun _ s' => Q (.d .none) s', rt := Q } (startD N_is_point ds) st := by
  intro ds st Q h
  unfold sp_is_point sp_is_place at h
  split at h
  · rename_i x
    walk_at "st"
    unfold b_is_point
    walk_at "gk"
    exact h
  · exact h.elim
theorem Pt.Ok.pl {p : Pt} (h : p.Ok) : isPl p.py = true := by
  show (decide (0 < p.b) && decide (gc p.a p.b = 1) && (decide (0 < p.d) && decide (gc p.c p.d = 1))) = true
  rw [decide_eq_true h.hb, decide_eq_true h.hd, decide_eq_true h.g1, decide_eq_true h.g2]
  rfl
theorem r_is_stretch : ∀ ds st Q, sp_is_stretch ds st Q → b_is_stretch { nx := fun _ s' => Q (.d .none) s', rt := Q } (startD N_is_stretch ds) st := by
  rintro ds st Q ⟨p, q, rfl, hp, hq, ne, h⟩
  walk_at "st"
  unfold b_is_stretch
  walk_at "gk"
  have e : isRow 2 2 (.tuple [p.py, q.py]) = true := rfl
  rw [e]
  simp only [if_true, hp.pl, hq.pl]
  show SeqAt.shaped p.py = true ∧ SeqAt.shaped q.py = true ∧ _
  refine ⟨pt_sh, pt_sh, ?_⟩
  rw [pt_eqv, decide_eq_false ne]
  exact h
theorem r_check_point : ∀ ds st Q, sp_check_point ds st Q → b_check_point { nx := fun _ s' => Q (.d .none) s', rt := Q } (startD N_check_point ds) st := by
  rintro ds st Q ⟨p, rfl, hp, h⟩
  walk_at "st"
  unfold b_check_point
  walk_at "gk"
  rw [hp.pl]
  exact h
theorem r_check_segment : ∀ ds st Q, sp_check_segment ds st Q → b_check_segment { nx := fun _ s' => Q (.d .none) s', rt := Q } (startD N_check_segment ds) st := by
  rintro ds st Q ⟨p, q, rfl, hp, hq, ne, h⟩
  walk_at "st"
  unfold b_check_segment
  walk_at "gk"
  exact ⟨p, q, rfl, hp, hq, ne, h⟩
end LB
namespace LB
open PySem PySem.Spec PyProof.Rows L2 DL
theorem scT_B {p : Pt} (h : p.Ok) : B 4800 (scT p).x ∧ B 4800 (scT p).y ∧ B 3200 (scT p).w := by
  have l := lcm_B h.bb h.bd
  exact ⟨B_mul h.ba (B_div l) (by decide), B_mul h.bc (B_div l) (by decide), l⟩
theorem crT_B {p q : Tr} (h : B 4800 p.x ∧ B 4800 p.y ∧ B 3200 p.w) (g : B 4800 q.x ∧ B 4800 q.y ∧ B 3200 q.w) : B 10000 (crT p q).x ∧ B 10000 (crT p q).y ∧ B 10000 (crT p q).w := by
  obtain ⟨h1, h2, h3⟩ := h
  obtain ⟨g1, g2, g3⟩ := g
  have m : ∀ {i j}, B 4800 i → B 4800 j → B 9600 (i * j) := fun h g => B_mul h g (by decide)
  have h3 := B_mono h3 (n := 4800) (by decide)
  have g3 := B_mono g3 (n := 4800) (by decide)
  exact ⟨B_sub (m h2 g3) (m h3 g2) (by decide) (by decide), B_sub (m h3 g1) (m h1 g3) (by decide) (by decide), B_sub (m h1 g2) (m h2 g1) (by decide) (by decide)⟩
theorem r_side_of : ∀ ds st Q, sp_side_of ds st Q → b_side_of { nx := fun _ s' => Q (.d .none) s', rt := Q } (startD N_side_of ds) st := by
  rintro ds st Q ⟨p, q, r, rfl, hp, hq, hr, h⟩
  walk_at "st"
  unfold b_side_of
  have bp := scT_B hp
  have bq := scT_B hq
  have br := scT_B hr
  have bc := crT_B bp bq
  have m : ∀ {i}, B 4800 i → B 8000 i := fun h => B_mono h (by decide)
  have m8 : ∀ {i}, B 3200 i → B 8000 i := fun h => B_mono h (by decide)
  have n : ∀ {i}, B 4800 i → B 20000 i := fun h => B_mono h (by decide)
  have n8 : ∀ {i}, B 3200 i → B 20000 i := fun h => B_mono h (by decide)
  have n5 : ∀ {i}, B 10000 i → B 20000 i := fun h => B_mono h (by decide)
  refine ⟨_, rfl, hp.hb, hp.hd, hp.ba, hp.bb, hp.bc, hp.bd, ?_⟩
  refine ⟨_, rfl, hq.hb, hq.hd, hq.ba, hq.bb, hq.bc, hq.bd, ?_⟩
  refine ⟨⟨m bp.1, m bp.2.1, m8 bp.2.2⟩, ⟨m bq.1, m bq.2.1, m8 bq.2.2⟩, ?_⟩
  refine ⟨_, rfl, hr.hb, hr.hd, hr.ba, hr.bb, hr.bc, hr.bd, ?_⟩
  refine ⟨⟨n5 bc.1, n5 bc.2.1, n5 bc.2.2⟩, ⟨n br.1, n br.2.1, n8 br.2.2⟩, ?_⟩
  exact .inl h
theorem r_turn_of : ∀ ds st Q, sp_turn_of ds st Q → b_turn_of { nx := fun _ s' => Q (.d .none) s', rt := Q } (startD N_turn_of ds) st := by
  rintro ds st Q ⟨p, q, r, rfl, hp, hq, hr, h⟩
  walk_at "st"
  refine ⟨_, rfl, p, rfl, hp, _, rfl, q, rfl, hq, _, rfl, r, rfl, hr, ?_⟩
  exact ⟨_, rfl, _, rfl, _, rfl, p, q, r, rfl, hp, hq, hr, .inl h⟩
theorem r_is_ahead : ∀ ds st Q, sp_is_ahead ds st Q → b_is_ahead { nx := fun _ s' => Q (.d .none) s', rt := Q } (startD N_is_ahead ds) st := by
  rintro ds st Q ⟨p, q, rfl, hp, hq, h⟩
  walk_at "st"
  unfold b_is_ahead b_is_ahead_1 b_is_ahead_2
  simp only [Pt.py]
  walk_at "gk"
  show SeqAt.shaped (fr p.a p.b) = true ∧ SeqAt.shaped (fr q.a q.b) = true ∧ _
  refine ⟨fr_sh, fr_sh, ?_⟩
  rw [fr_eqv]
  unfold ahead at h
  by_cases e : p.a = q.a ∧ p.b = q.b
  · rw [if_pos e] at h
    rw [decide_eq_true e.1, decide_eq_true e.2]
    exact ⟨⟨hp.bc, hp.bd, hq.bc, hq.bd⟩, h⟩
  · rw [if_neg e] at h
    have e2 : (decide (p.a = q.a) && decide (p.b = q.b)) = false := by
      rw [Bool.eq_false_iff]
      simpa using e
    rw [e2]
    exact ⟨⟨hp.ba, hp.bb, hq.ba, hq.bb⟩, h⟩
theorem r_in_order : ∀ ds st Q, sp_in_order ds st Q → b_in_order { nx := fun _ s' => Q (.d .none) s', rt := Q } (startD N_in_order ds) st := by
  rintro ds st Q ⟨p, q, rfl, hp, hq, h⟩
  walk_at "st"
  unfold b_in_order b_in_order_1 b_in_order_2
  walk_at "gk"
  refine ⟨q, p, rfl, hq, hp, ?_⟩
  cases e : ahead q p with
  | true =>
    rw [e] at h
    exact ⟨big_ok (by decide), h⟩
  | false =>
    rw [e] at h
    exact ⟨big_ok (by decide), h⟩
theorem r_lies_on : ∀ ds st Q, sp_lies_on ds st Q → b_lies_on { nx := fun _ s' => Q (.d .none) s', rt := Q } (startD N_lies_on ds) st := by
  rintro ds st Q ⟨p, q, r, rfl, hp, hq, hr, h⟩
  walk_at "st"
  unfold b_lies_on b_lies_on_1 b_lies_on_2 b_lies_on_3
  walk_at "gk"
  refine ⟨p, q, r, rfl, hp, hq, hr, ?_⟩
  unfold onP at h
  by_cases e : sideP p q r = 0
  · rw [if_neg (by simpa using e)] at h
    show if (!decide (sideP p q r = 0)) = true then _ else _
    rw [decide_eq_true e, if_neg (by decide)]
    refine ⟨p, q, rfl, hp, hq, ?_⟩
    cases a : ahead q p with
    | true =>
      rw [a, if_pos rfl] at h
      refine .inl ⟨rfl, ?_⟩
      walk_at "gk"
      refine ⟨r, q, rfl, hr, hq, ?_⟩
      cases a1 : ahead r q with
      | true =>
        rw [a1] at h
        exact h
      | false =>
        rw [a1] at h
        refine ⟨p, r, rfl, hp, hr, ?_⟩
        exact h
    | false =>
      rw [a, if_neg (by decide)] at h
      refine .inl ⟨rfl, ?_⟩
      walk_at "gk"
      refine ⟨r, p, rfl, hr, hp, ?_⟩
      cases a1 : ahead r p with
      | true =>
        rw [a1] at h
        exact h
      | false =>
        rw [a1] at h
        refine ⟨q, r, rfl, hq, hr, ?_⟩
        exact h
  · rw [if_pos e] at h
    show if (!decide (sideP p q r = 0)) = true then _ else _
    rw [decide_eq_false e, if_pos (by decide)]
    exact h
theorem r_is_on : ∀ ds st Q, sp_is_on ds st Q → b_is_on { nx := fun _ s' => Q (.d .none) s', rt := Q } (startD N_is_on ds) st := by
  rintro ds st Q ⟨p, q, r, rfl, hp, hq, hr, ne, h⟩
  walk_at "st"
  refine ⟨_, rfl, p, q, rfl, hp, hq, ne, _, rfl, r, rfl, hr, ?_⟩
  exact ⟨_, rfl, _, rfl, p, q, r, rfl, hp, hq, hr, .inl h⟩
theorem r_l_lies_on : ∀ ds st Q, sp_l_lies_on ds st Q → b_l_lies_on { nx := fun _ s' => Q (.d .none) s', rt := Q } (startD N_l_lies_on ds) st := by
  intro ds st Q h
  unfold sp_l_lies_on at h
  split at h
  · rename_i x y w x' y' w' x'' y'' w''
    obtain ⟨h1, h2, h3, h⟩ := h
    walk_at "st"
    unfold b_l_lies_on b_l_lies_on_1 b_l_lies_on_2 b_l_lies_on_3
    walk_at "gk"
    refine ⟨h1, h2, h3, ?_⟩
    unfold onT at h
    by_cases e : det ⟨x, y, w⟩ ⟨x', y', w'⟩ ⟨x'', y'', w''⟩ = 0
    · rw [if_neg (by simpa using e)] at h
      show if (!decide (det ⟨x, y, w⟩ ⟨x', y', w'⟩ ⟨x'', y'', w''⟩ = 0)) = true then _ else _
      rw [decide_eq_true e, if_neg (by decide)]
      refine ⟨h1, h2, ?_⟩
      cases a : lessT ⟨x, y, w⟩ ⟨x', y', w'⟩ with
      | true =>
        rw [a, if_pos rfl] at h
        walk_at "gk"
        refine ⟨big_ok (by decide), h3, h1, ?_⟩
        cases a1 : lessT ⟨x'', y'', w''⟩ ⟨x, y, w⟩ with
        | true =>
          rw [a1] at h
          exact h
        | false =>
          rw [a1] at h
          exact ⟨h2, h3, h⟩
      | false =>
        rw [a, if_neg (by decide)] at h
        walk_at "gk"
        refine ⟨big_ok (by decide), h3, h2, ?_⟩
        cases a1 : lessT ⟨x'', y'', w''⟩ ⟨x', y', w'⟩ with
        | true =>
          rw [a1] at h
          exact h
        | false =>
          rw [a1] at h
          exact ⟨h1, h3, h⟩
    · rw [if_pos e] at h
      show if (!decide (det ⟨x, y, w⟩ ⟨x', y', w'⟩ ⟨x'', y'', w''⟩ = 0)) = true then _ else _
      rw [decide_eq_false e, if_pos (by decide)]
      exact h
  · exact h.elim
end LB
namespace LB
open PySem PySem.Spec PyProof.Rows L2 DL
/-- a place is told by a point -/
structure Rel (p : Pt) (t : Tr) : Prop where
  hx : t.x * p.b = p.a * t.w
  hy : t.y * p.d = p.c * t.w
  hw : 0 < t.w
  hb : 0 < p.b
  hd : 0 < p.d
theorem sgn_neg (n : Int) : sgn (-n) = 0 - sgn n := by
  unfold sgn
  split <;> split <;> first | omega | (split <;> split <;> omega) | (split <;> omega)
theorem sgn_scale {k l m n : Int} (hk : 0 < k) (hl : 0 < l) (h : k * m = l * n) : sgn m = sgn n := by
  rcases Int.lt_trichotomy m 0 with hm | hm | hm
  · have : l * n < 0 := by
      rw [← h]
      exact Int.mul_neg_of_pos_of_neg hk hm
    have hn : n < 0 := by
      rcases Int.lt_or_le n 0 with h1 | h1
      · exact h1
      · have := Int.mul_nonneg (Int.le_of_lt hl) h1
        omega
    unfold sgn
    rw [if_neg (by omega), if_neg (by omega), if_neg (by omega), if_neg (by omega)]
  · subst hm
    rw [Int.mul_zero] at h
    rcases Int.mul_eq_zero.mp h.symm with h1 | h1
    · omega
    · rw [h1]
  · have : 0 < l * n := by
      rw [← h]
      exact Int.mul_pos hk hm
    have hn : 0 < n := by
      rcases Int.lt_or_le 0 n with h1 | h1
      · exact h1
      · have := Int.mul_nonpos_of_nonneg_of_nonpos (Int.le_of_lt hl) h1
        omega
    unfold sgn
    rw [if_neg (by omega), if_pos hm, if_neg (by omega), if_pos hn]
theorem sgn_lt {m : Int} : sgn m = -1 ↔ m < 0 := by
  unfold sgn
  split
  · omega
  · split <;> omega
theorem sgn_zero {m : Int} : sgn m = 0 ↔ m = 0 := by
  unfold sgn
  split
  · omega
  · split <;> omega
theorem rel_same {p : Pt} {t u : Tr} (h : Rel p t) (g : Rel p u) : u.w * t.x = t.w * u.x ∧ u.w * t.y = t.w * u.y := by
  obtain ⟨h1, h2, h3, h4, h5⟩ := h
  obtain ⟨g1, g2, g3, g4, g5⟩ := g
  constructor
  · have : p.b * (u.w * t.x) = p.b * (t.w * u.x) := by grind
    exact Int.eq_of_mul_eq_mul_left (by omega) this
  · have : p.d * (u.w * t.y) = p.d * (t.w * u.y) := by grind
    exact Int.eq_of_mul_eq_mul_left (by omega) this
theorem al_det {p q r : Tr} : alT (crT p q) r = det p q r := by
  unfold alT crT det
  grind
theorem det_rot {p q r : Tr} : det q r p = det p q r := by
  unfold det
  grind
theorem det_swap {p q r : Tr} : det q p r = - det p q r := by
  unfold det
  grind
theorem det_eq1 {p r : Tr} : det p p r = 0 := by
  unfold det
  grind
theorem det_s1 {t u q r : Tr} (h : u.w * t.x = t.w * u.x ∧ u.w * t.y = t.w * u.y) : u.w * det t q r = t.w * det u q r := by
  obtain ⟨h1, h2⟩ := h
  unfold det
  grind
theorem sgn_det1 {p : Pt} {t u q r : Tr} (h : Rel p t) (g : Rel p u) : sgn (det t q r) = sgn (det u q r) := sgn_scale g.hw h.hw (det_s1 (rel_same h g))
theorem sgn_det {p q r : Pt} {t u t1 u1 t2 u2 : Tr} (h : Rel p t) (g : Rel p u) (h1 : Rel q t1) (g1 : Rel q u1) (h2 : Rel r t2) (g2 : Rel r u2) : sgn (det t t1 t2) = sgn (det u u1 u2) := by
  rw [sgn_det1 h g, ← det_rot, sgn_det1 h1 g1, ← det_rot, sgn_det1 h2 g2, ← det_rot]
/-! who is ahead -/
theorem cmp_x {p q : Pt} {t u : Tr} (h : Rel p t) (g : Rel q u) : sgn (t.x * u.w - u.x * t.w) = sgn (p.a * q.b - q.a * p.b) := by
  obtain ⟨h1, h2, h3, h4, h5⟩ := h
  obtain ⟨g1, g2, g3, g4, g5⟩ := g
  refine sgn_scale (k := p.b * q.b) (l := t.w * u.w) (Int.mul_pos h4 g4) (Int.mul_pos h3 g3) ?_
  grind
theorem cmp_y {p q : Pt} {t u : Tr} (h : Rel p t) (g : Rel q u) : sgn (t.y * u.w - u.y * t.w) = sgn (p.c * q.d - q.c * p.d) := by
  obtain ⟨h1, h2, h3, h4, h5⟩ := h
  obtain ⟨g1, g2, g3, g4, g5⟩ := g
  refine sgn_scale (k := p.d * q.d) (l := t.w * u.w) (Int.mul_pos h5 g5) (Int.mul_pos h3 g3) ?_
  grind
theorem low {a b c d : Int} (hb : 0 < b) (hd : 0 < d) (h : gc a b = 1) (g : gc c d = 1) (e : a * d = c * b) : a = c ∧ b = d := by
  have h1 : Nat.Coprime a.natAbs b.natAbs := by
    unfold gc at h
    show Nat.gcd _ _ = 1
    omega
  have g1 : Nat.Coprime c.natAbs d.natAbs := by
    unfold gc at g
    show Nat.gcd _ _ = 1
    omega
  have e1 : a.natAbs * d.natAbs = c.natAbs * b.natAbs := by
    rw [← Int.natAbs_mul, ← Int.natAbs_mul, e]
  have d1 : b.natAbs ∣ d.natAbs := h1.symm.dvd_of_dvd_mul_left (by rw [e1]; exact Nat.dvd_mul_left _ _)
  have d2 : d.natAbs ∣ b.natAbs := g1.symm.dvd_of_dvd_mul_left (by rw [← e1]; exact Nat.dvd_mul_left _ _)
  have e2 := Nat.dvd_antisymm d1 d2
  have e3 : b = d := by omega
  subst e3
  exact ⟨Int.eq_of_mul_eq_mul_right (by omega) e, rfl⟩
theorem ahead_less {p q : Pt} {t u : Tr} (h : Rel p t) (g : Rel q u) (hp : p.Ok) (hq : q.Ok) : ahead p q = lessT t u := by
  have cx := cmp_x h g
  have cy := cmp_y h g
  unfold ahead lessT
  by_cases e : p.a * q.b - q.a * p.b = 0
  · have e1 := low hp.hb hq.hb hp.g1 hq.g1 (show p.a * q.b = q.a * p.b by omega)
    have e2 : t.x * u.w - u.x * t.w = 0 := by
      rw [← sgn_zero, cx, sgn_zero, e]
    rw [if_pos e1, if_neg (by omega), Bool.eq_iff_iff, decide_eq_true_iff, decide_eq_true_iff]
    have := @sgn_lt (t.y * u.w - u.y * t.w)
    have := @sgn_lt (p.c * q.d - q.c * p.d)
    rw [cy] at *
    omega
  · have e2 : ¬ t.x * u.w - u.x * t.w = 0 := by
      rw [← sgn_zero, cx, sgn_zero]
      exact e
    rw [if_neg (fun z => e (by rw [z.1, z.2]; omega)), if_pos (by omega), Bool.eq_iff_iff, decide_eq_true_iff, decide_eq_true_iff]
    have := @sgn_lt (t.x * u.w - u.x * t.w)
    have := @sgn_lt (p.a * q.b - q.a * p.b)
    rw [cx] at *
    omega
theorem ahead_irr {p : Pt} : ahead p p = false := by
  unfold ahead
  rw [if_pos ⟨rfl, rfl⟩, decide_eq_false (by omega)]
theorem ahead_tri {p q : Pt} (hp : p.Ok) (hq : q.Ok) (ne : p ≠ q) : ahead q p = !ahead p q := by
  unfold ahead
  by_cases e : p.a = q.a ∧ p.b = q.b
  · rw [if_pos e, if_pos ⟨e.1.symm, e.2.symm⟩]
    have : ¬ p.c * q.d = q.c * p.d := fun z => by
      have := low hp.hd hq.hd hp.g2 hq.g2 z
      apply ne
      obtain ⟨a, b, c, d⟩ := p
      obtain ⟨a', b', c', d'⟩ := q
      simp only [] at *
      rw [e.1, e.2, this.1, this.2]
    by_cases l : p.c * q.d < q.c * p.d
    · rw [decide_eq_true l, decide_eq_false (by omega)]
      rfl
    · rw [decide_eq_false l, decide_eq_true (by omega)]
      rfl
  · rw [if_neg e, if_neg (fun z => e ⟨z.1.symm, z.2.symm⟩)]
    have : ¬ p.a * q.b = q.a * p.b := fun z => e (low hp.hb hq.hb hp.g1 hq.g1 z)
    by_cases l : p.a * q.b < q.a * p.b
    · rw [decide_eq_true l, decide_eq_false (by omega)]
      rfl
    · rw [decide_eq_false l, decide_eq_true (by omega)]
      rfl
end LB
namespace LB
open PySem PySem.Spec PyProof.Rows L2 DL
theorem cancel {g a : Int} (h : g ∣ a) : g * (a / g) = a := Int.mul_ediv_cancel' h
theorem gc_dl (a b : Int) : gc a b ∣ a := by
  unfold gc
  exact Int.ofNat_dvd_left.mpr (Nat.gcd_dvd_left _ _)
theorem gc_dr (a b : Int) : gc a b ∣ b := by
  unfold gc
  exact Int.ofNat_dvd_left.mpr (Nat.gcd_dvd_right _ _)
theorem gc_nn (a b : Int) : 0 ≤ gc a b := by
  unfold gc
  omega
theorem div_pos {g b : Int} (hb : 0 < b) (hg : 0 < g) (h : g ∣ b) : 0 < b / g := Int.ediv_pos_of_pos_of_dvd hb (Int.le_of_lt hg) h
theorem place_x {x y w : Int} (hw : 0 < w) : gc (gc x y) w * (placeT x y w).x = x ∧ gc (gc x y) w * (placeT x y w).y = y ∧ gc (gc x y) w * (placeT x y w).w = w ∧ 0 < gc (gc x y) w ∧ 0 < (placeT x y w).w := by
  have d1 : gc (gc x y) w ∣ x := Int.dvd_trans (gc_dl _ _) (gc_dl _ _)
  have d2 : gc (gc x y) w ∣ y := Int.dvd_trans (gc_dl _ _) (gc_dr _ _)
  have d3 : gc (gc x y) w ∣ w := gc_dr _ _
  have g : 0 < gc (gc x y) w := gc_pos hw
  exact ⟨cancel d1, cancel d2, cancel d3, g, div_pos hw g d3⟩
theorem rel_own {p : Pt} (hb : 0 < p.b) (hd : 0 < p.d) : Rel p (ownT p) := by
  obtain ⟨h1, h2, h3, h4, h5⟩ := place_x (x := p.a * p.d) (y := p.c * p.b) (w := p.b * p.d) (Int.mul_pos hb hd)
  change gc (gc (p.a * p.d) (p.c * p.b)) (p.b * p.d) * (ownT p).x = _ at h1
  change gc (gc (p.a * p.d) (p.c * p.b)) (p.b * p.d) * (ownT p).y = _ at h2
  change gc (gc (p.a * p.d) (p.c * p.b)) (p.b * p.d) * (ownT p).w = _ at h3
  change 0 < (ownT p).w at h5
  generalize gc (gc (p.a * p.d) (p.c * p.b)) (p.b * p.d) = g at *
  refine ⟨?_, ?_, h5, hb, hd⟩
  · refine Int.eq_of_mul_eq_mul_left (a := g) (by omega) ?_
    grind
  · refine Int.eq_of_mul_eq_mul_left (a := g) (by omega) ?_
    grind
theorem rel_sc {p : Pt} (hb : 0 < p.b) (hd : 0 < p.d) : Rel p (scT p) := by
  have d1 : p.b ∣ ((Nat.lcm p.b.natAbs p.d.natAbs : Nat) : Int) := Int.ofNat_dvd_right.mpr (Nat.dvd_lcm_left _ _)
  have d2 : p.d ∣ ((Nat.lcm p.b.natAbs p.d.natAbs : Nat) : Int) := Int.ofNat_dvd_right.mpr (Nat.dvd_lcm_right _ _)
  have e1 := cancel d1
  have e2 := cancel d2
  have l : 0 < ((Nat.lcm p.b.natAbs p.d.natAbs : Nat) : Int) := by
    have : 0 < Nat.lcm p.b.natAbs p.d.natAbs := Nat.lcm_pos (by omega) (by omega)
    omega
  refine ⟨?_, ?_, l, hb, hd⟩
  · show p.a * (((Nat.lcm p.b.natAbs p.d.natAbs : Nat) : Int) / p.b) * p.b = p.a * ((Nat.lcm p.b.natAbs p.d.natAbs : Nat) : Int)
    grind
  · show p.c * (((Nat.lcm p.b.natAbs p.d.natAbs : Nat) : Int) / p.d) * p.d = p.c * ((Nat.lcm p.b.natAbs p.d.natAbs : Nat) : Int)
    grind
theorem gc_low {a b : Int} (hb : 0 < b) : gc (a / gc a b) (b / gc a b) = 1 := by
  have g := gc_pos (a := a) hb
  have h : Nat.gcd (a.natAbs / Nat.gcd a.natAbs b.natAbs) (b.natAbs / Nat.gcd a.natAbs b.natAbs) = 1 := Nat.coprime_div_gcd_div_gcd (by
    unfold gc at g
    omega)
  have e1 : (a / gc a b).natAbs = a.natAbs / Nat.gcd a.natAbs b.natAbs := by
    rw [Int.natAbs_ediv_of_dvd (gc_dl a b)]
    rfl
  have e2 : (b / gc a b).natAbs = b.natAbs / Nat.gcd a.natAbs b.natAbs := by
    rw [Int.natAbs_ediv_of_dvd (gc_dr a b)]
    rfl
  show (((Nat.gcd (a / gc a b).natAbs (b / gc a b).natAbs : Nat)) : Int) = 1
  rw [e1, e2, h]
  rfl
theorem told_ok {t : Tr} (h : t.Ok 1600) : (toldP t).Ok := by
  obtain ⟨hw, hx, hy, hz⟩ := h
  exact ⟨div_pos hw (gc_pos hw) (gc_dr _ _), div_pos hw (gc_pos hw) (gc_dr _ _), gc_low hw, gc_low hw, B_div hx, B_div hz, B_div hy, B_div hz⟩
theorem rel_told {t : Tr} (hw : 0 < t.w) : Rel (toldP t) t := by
  have e1 := cancel (gc_dl t.x t.w)
  have e2 := cancel (gc_dr t.x t.w)
  have e3 := cancel (gc_dl t.y t.w)
  have e4 := cancel (gc_dr t.y t.w)
  have g1 := gc_pos (a := t.x) hw
  have g2 := gc_pos (a := t.y) hw
  refine ⟨?_, ?_, hw, div_pos hw g1 (gc_dr _ _), div_pos hw g2 (gc_dr _ _)⟩
  · show t.x * (t.w / gc t.x t.w) = t.x / gc t.x t.w * t.w
    refine Int.eq_of_mul_eq_mul_left (a := gc t.x t.w) (by omega) ?_
    generalize gc t.x t.w = g at *
    generalize t.x / g = u at *
    generalize t.w / g = v at *
    grind
  · show t.y * (t.w / gc t.y t.w) = t.y / gc t.y t.w * t.w
    refine Int.eq_of_mul_eq_mul_left (a := gc t.y t.w) (by omega) ?_
    generalize gc t.y t.w = g at *
    generalize t.y / g = u at *
    generalize t.w / g = v at *
    grind
theorem side_det {p q r : Pt} : sideP p q r = sgn (det (scT p) (scT q) (scT r)) := by
  unfold sideP
  rw [al_det]
theorem Pt.Ok.rel {p : Pt} (h : p.Ok) : Rel p (scT p) := rel_sc h.hb h.hd
theorem side_rel {p q r : Pt} {t u v : Tr} (hp : p.Ok) (hq : q.Ok) (hr : r.Ok) (h : Rel p t) (g : Rel q u) (k : Rel r v) : sideP p q r = sgn (det t u v) := by
  rw [side_det]
  exact sgn_det hp.rel h hq.rel g hr.rel k
theorem onP_rel {p q r : Pt} {t u v : Tr} (hp : p.Ok) (hq : q.Ok) (hr : r.Ok) (h : Rel p t) (g : Rel q u) (k : Rel r v) (ne : p ≠ q) : onP p q r = onT t u v := by
  unfold onP onT
  have e := sgn_zero (m := det t u v)
  rw [← side_rel hp hq hr h g k] at e
  rw [← ahead_less h g hp hq, ← ahead_less k h hr hp, ← ahead_less g k hq hr, ← ahead_less k g hr hq, ← ahead_less h k hp hr, ahead_tri hp hq ne]
  by_cases z : sideP p q r = 0
  · rw [if_neg (show ¬ sideP p q r ≠ 0 from fun w => w z), if_neg (show ¬ det t u v ≠ 0 from fun w => w (e.mp z))]
    cases ahead p q <;> rfl
  · rw [if_pos z, if_pos (show det t u v ≠ 0 from fun w => z (e.mpr w))]
theorem side_rot {p q r : Pt} : sideP q r p = sideP p q r := by
  rw [side_det, side_det, det_rot]
theorem side_swap {p q r : Pt} : sideP q p r = 0 - sideP p q r := by
  rw [side_det, side_det, det_swap, sgn_neg]
theorem side_eq1 {p r : Pt} : sideP p p r = 0 := by
  rw [side_det, det_eq1]
  rfl
theorem onP_swap {p q r : Pt} (hp : p.Ok) (hq : q.Ok) (ne : p ≠ q) : onP q p r = onP p q r := by
  unfold onP
  rw [side_swap, ahead_tri hp hq ne]
  by_cases z : sideP p q r = 0
  · rw [z]
    cases ahead p q <;> rfl
  · rw [if_pos (by omega), if_pos z]
theorem onP_end {p q : Pt} (hp : p.Ok) (hq : q.Ok) (ne : p ≠ q) : onP p q q = true := by
  unfold onP
  rw [← side_rot, side_eq1, ahead_tri hp hq ne, ahead_irr]
  cases ahead p q <;> rfl
end LB
namespace LB
open PySem PySem.Spec PyProof.Rows L2 DL
/-! ### the frame of a grid -/
def frP (x y s u w : Int) : PyData := .tuple [.int x, .int y, .int s, .int u, .int w]
structure FrOk (x y s u w : Int) : Prop where
  bx : B 20 x
  by_ : B 20 y
  s0 : 0 < s
  bs : B 20 s
  u0 : 0 < u
  bu : B 3 u
  w0 : 3 ≤ w
  w1 : w ≤ 5
def sp_frame : SpD := fun ds st Q => match ds with
  | [.own p] => spS 2 (fun d => ∃ x y s u w, d = .d (frP x y s u w) ∧ FrOk x y s u w) p st Q
  | _ => False
/-- a point of small numbers -/
structure Pt.G (p : Pt) : Prop where
  hb : 0 < p.b
  hd : 0 < p.d
  g1 : gc p.a p.b = 1
  g2 : gc p.c p.d = 1
  ba : B 45 p.a
  bb : B 20 p.b
  bc : B 45 p.c
  bd : B 20 p.d
structure Pt.Sm (p : Pt) : Prop where
  hb : 0 < p.b
  hd : 0 < p.d
  g1 : gc p.a p.b = 1
  g2 : gc p.c p.d = 1
  ba : B 110 p.a
  bb : B 110 p.b
  bc : B 110 p.c
  bd : B 110 p.d
theorem B_up {a n : Nat} {i : Int} (h : B a i) (hn : a ≤ n) : B n i := B_mono h hn
theorem Pt.G.sm {p : Pt} (h : p.G) : p.Sm := ⟨h.hb, h.hd, h.g1, h.g2, B_mono h.ba (by decide), B_mono h.bb (by decide), B_mono h.bc (by decide), B_mono h.bd (by decide)⟩
theorem Pt.Sm.ok {p : Pt} (h : p.Sm) : p.Ok := ⟨h.hb, h.hd, h.g1, h.g2, B_mono h.ba (by decide), B_mono h.bb (by decide), B_mono h.bc (by decide), B_mono h.bd (by decide)⟩
def gridP (x y s u i j n : Int) : Pt := ⟨(x * n + s * i) / gc (x * n + s * i) (u * n), (u * n) / gc (x * n + s * i) (u * n), (y * n + s * j) / gc (y * n + s * j) (u * n), (u * n) / gc (y * n + s * j) (u * n)⟩
def sp_grid : SpD := fun ds st Q => match ds with
  | [.d (.tuple [.int x, .int y, .int s, .int u, .int w]), .d (.int i), .d (.int j), .d (.int n)] => FrOk x y s u w ∧ 0 < n ∧ n < 100 ∧ B 20 i ∧ B 20 j ∧ Q (.d (gridP x y s u i j n).py) st
  | _ => False
def sp_dot : SpD := fun ds st Q => match ds with
  | [.own p, .d (.tuple [.int x, .int y, .int s, .int u, .int w])] => FrOk x y s u w ∧ spS 3 (fun d => ∃ q : Pt, d = .d q.py ∧ q.G) p st Q
  | _ => False
/-- neighbours unlike -/
def Chain : List Pt → Prop
  | a :: b :: r => a ≠ b ∧ Chain (b :: r)
  | _ => True
def sp_row : SpD := fun ds st Q => match ds with
  | [.own p, .d (.tuple [.int x, .int y, .int s, .int u, .int w]), .d (.int m), .d (.bool c)] => FrOk x y s u w ∧ 1 ≤ m ∧ m ≤ 20 ∧
    spS 20 (fun d => ∃ ps : List Pt, d = .d (.tuple (ps.map Pt.py)) ∧ ps.length = m.toNat ∧ (∀ q ∈ ps, q.G) ∧ Chain ps ∧ (c = true → 2 ≤ m → ps[ps.length - 1]? ≠ ps[0]?)) p st Q
  | _ => False
/-! ### the law's own meetings -/
/-- a place in lowest terms -/
structure Tr.Lo (n : Nat) (t : Tr) : Prop where
  ok : t.Ok n
  low : gc (gc t.x t.y) t.w = 1
def botT : List Tr → Int → Int
  | [], f => f
  | t :: r, f => botT r (f / gc f t.w * t.w)
def RowOf (ts : List Tr) (x : PyData) : Prop := x = .list (ts.map Tr.py) ∨ x = .tuple (ts.map Tr.py)
def sp_bottom : SpD := fun ds st Q => ∃ (ts : List Tr) (x : PyData), ds = [.d x] ∧ RowOf ts x ∧ ts.length ≤ 100 ∧ (∀ t ∈ ts, t.Ok 1000) ∧ Q (I (botT ts 1)) st
def sp_rising : SpD := fun ds st Q => ∃ (ts : List Tr) (x : PyData), ds = [.d x] ∧ RowOf ts x ∧ ts.length ≤ 100 ∧ (∀ t ∈ ts, t.Lo 1000) ∧
  ∀ out : List Tr, (∀ t, t ∈ out ↔ t ∈ ts) → out.Pairwise (fun a b => lessT a b = true) → out.length ≤ ts.length → Q (.d (.list (out.map Tr.py))) st
def crossS (p q r s : Tr) : Tr := placeS (det r s p * q.x - det r s q * p.x) (det r s p * q.y - det r s q * p.y) (det r s p * q.w - det r s q * p.w)
/-- what the law's own sums tell -/
def MeetR (p q r s : Tr) (out : List Tr) : Prop :=
  if det p q r = 0 ∧ det p q s = 0 then (∀ t, t ∈ out ↔ (t ∈ [p, q] ∧ onT r s t = true) ∨ (t ∈ [r, s] ∧ onT p q t = true)) ∧ out.Pairwise (fun a b => lessT a b = true)
  else if 0 < det r s p * det r s q ∨ 0 < det p q r * det p q s then out = [] else out = [crossS p q r s]
def sp_l_meet : SpD := fun ds st Q => ∃ p q r s : Tr, ds = [.d (.tuple [p.py, q.py]), .d (.tuple [r.py, s.py])] ∧ p.Lo 230 ∧ q.Lo 230 ∧ r.Lo 230 ∧ s.Lo 230 ∧ p ≠ q ∧ r ≠ s ∧
  ∀ out : List Tr, MeetR p q r s out → (∀ t ∈ out, t.Lo 1000) → out.length ≤ 4 → Q (.d (.list (out.map Tr.py))) st
def pairT (z : Tr × Tr) : PyData := .tuple [z.1.py, z.2.py]
def pairP (z : Pt × Pt) : PyData := .tuple [z.1.py, z.2.py]
def sp_places : SpD := fun ds st Q => ∃ zs : List (Pt × Pt), ds = [.d (.list (zs.map pairP))] ∧ zs.length ≤ 100 ∧ (∀ z ∈ zs, z.1.Sm ∧ z.2.Sm) ∧ Q (.d (.list (zs.map fun z => pairT (ownT z.1, ownT z.2)))) st
def sp_middle : SpD := fun ds st Q => ∃ p q : Tr, ds = [.d p.py, .d q.py] ∧ p.Ok 230 ∧ q.Ok 230 ∧ ∀ r : Tr, r.Lo 1000 → Q (.d r.py) st
def sp_any_place : SpD := fun ds st Q => ∃ (p : Addr) (x y s u w : Int) (zs : List (Tr × Tr)) (ls : List Tr), ds = [.own p, .d (frP x y s u w), .d (.list (zs.map pairT)), .d (.list (ls.map Tr.py))] ∧ FrOk x y s u w ∧ zs.length < 100 ∧ ls.length < 100 ∧
  (∀ z ∈ zs, z.1.Lo 230 ∧ z.2.Lo 230 ∧ z.1 ≠ z.2) ∧ (∀ t ∈ ls, t.Lo 1000) ∧ spS 4 (fun d => ∃ t : Tr, d = .d t.py ∧ t.Lo 1000) p st Q
/-! ### what two segments have in common -/
def fracD (t b : Int) : PyData := if 0 < b then partD t b else partD (-t) (-b)
def sp_fraction : SpD := fun ds st Q => match ds with
  | [.d (.int t), .d (.int b)] => b ≠ 0 ∧ B 8000 t ∧ B 8000 b ∧ Q (.d (fracD t b)) st
  | _ => False
def unscP (t : Tr) : Pt := if 0 < t.w then toldP t else toldP ⟨-t.x, -t.y, -t.w⟩
def sp_unscaled : SpD := fun ds st Q => match ds with
  | [.d (.tuple [.int x, .int y, .int w])] => w ≠ 0 ∧ B 8000 x ∧ B 8000 y ∧ B 8000 w ∧ Q (.d (unscP ⟨x, y, w⟩).py) st
  | _ => False
def loP (p q : Pt) : Pt := if ahead q p then q else p
def hiP (p q : Pt) : Pt := if ahead q p then p else q
def overP (p q r s : Pt) : List Pt :=
  let l := if ahead (loP p q) (loP r s) then loP r s else loP p q
  let h := if ahead (hiP r s) (hiP p q) then hiP r s else hiP p q
  if l = h then [l] else if ahead l h then [l, h] else []
def sp_overlap : SpD := fun ds st Q => ∃ p q r s : Pt, ds = [.d (.tuple [p.py, q.py]), .d (.tuple [r.py, s.py])] ∧ p.Ok ∧ q.Ok ∧ r.Ok ∧ s.Ok ∧ Q (.d (.tuple ((overP p q r s).map Pt.py))) st
def meetP (p q r s : Pt) : List Pt :=
  if sideP p q r = 0 ∧ sideP p q s = 0 then overP p q r s
  else if 0 < sideP p q r * sideP p q s ∨ 0 < sideP r s p * sideP r s q then []
  else [unscP (crT (crT (scT p) (scT q)) (crT (scT r) (scT s)))]
def sp_meet : SpD := fun ds st Q => ∃ p q r s : Pt, ds = [.d (.tuple [p.py, q.py]), .d (.tuple [r.py, s.py])] ∧ p.Sm ∧ q.Sm ∧ r.Sm ∧ s.Sm ∧ p ≠ q ∧ r ≠ s ∧ Q (.d (.tuple ((meetP p q r s).map Pt.py))) st
def sp_common : SpD := sp_meet
end LB
namespace LB
open PySem PySem.Spec PyProof.Rows L2 DL
abbrev N_fraction : List Str := ["upper", "lower", "shared"]
abbrev N_unscaled : List Str := ["triple", "x", "y", "w"]
abbrev N_overlap : List Str := ["segment", "other", "low", "high", "other_low", "other_high"]
abbrev N_meet : List Str := ["segment", "other", "line", "other_line", "sides", "other_sides", "end"]
abbrev N_common : List Str := ["segment", "other_segment"]
abbrev N_bottom : List Str := ["_law_places_here", "_law_found", "_law_each"]
abbrev N_rising : List Str := ["_law_places_here", "_law_by", "_law_some", "_law_each", "_law_at"]
abbrev N_l_meet : List Str := ["_law_one", "_law_two_here", "_law_p", "_law_q", "_law_r", "_law_s", "_law_a", "_law_b", "_law_c", "_law_d", "_law_ends", "_law_each"]
abbrev N_frame : List Str := ["_law_spring_here", "_law_wide", "_law_x", "_law_y", "_law_step", "_law_under"]
abbrev N_grid : List Str := ["_law_frame_here", "_law_i", "_law_j", "_law_n", "_law_x", "_law_y", "_law_step", "_law_under", "_law_wide"]
abbrev N_dot : List Str := ["_law_spring_here", "_law_frame_here", "_law_n", "_law_i", "_law_j"]
abbrev N_row : List Str := ["_law_spring_here", "_law_frame_here", "_law_many", "_law_is_closed", "_law_wide", "_law_found", "_law_turn", "_law_shut", "_law_each"]
abbrev N_places : List Str := ["_law_lines", "_law_each"]
abbrev N_middle : List Str := ["_law_p", "_law_q"]
abbrev N_any_place : List Str := ["_law_spring_here", "_law_frame_here", "_law_shuts", "_law_lone", "_law_branch", "_law_one", "_law_two_here", "_law_some"]
def b_fraction_1 : TSd := (dAsg (dCall cGcd (dCons (dVar 0) (dCons (dVar 1) dNil))) (hName 2))
def b_fraction_2 : TSd := (dIfS (dTst (dBin rLtD (dVar 1) (dC (.int 0)))) (dAsg (dNeg (dVar 2)) (hName 2)) dNext)
def b_fraction_3 : TSd := (dRet (dTup (dCons (dBin rDivF (dVar 0) (dVar 2)) (dCons (dBin rDivF (dVar 1) (dVar 2)) dNil))))
def b_fraction : TSd := (dSeq b_fraction_1 (dSeq b_fraction_2 b_fraction_3))
def b_unscaled_1 : TSd := (dAsg (dVar 0) (hTup 3 (hCons (hName 1) (hCons (hName 2) (hCons (hName 3) hNil)))))
def b_unscaled_2 : TSd := (dRet (dTup (dCons (dFn0 sp_fraction (dCons (dVar 1) (dCons (dVar 3) dNil))) (dCons (dFn0 sp_fraction (dCons (dVar 2) (dCons (dVar 3) dNil))) dNil))))
def b_unscaled : TSd := (dSeq b_unscaled_1 b_unscaled_2)
def b_overlap_1 : TSd := (dAsg (dFn0 sp_in_order (dCons (dVar 0) dNil)) (hTup 2 (hCons (hName 2) (hCons (hName 3) hNil))))
def b_overlap_2 : TSd := (dAsg (dFn0 sp_in_order (dCons (dVar 1) dNil)) (hTup 2 (hCons (hName 4) (hCons (hName 5) hNil))))
def b_overlap_3 : TSd := (dIfS (dTst (dFn0 sp_is_ahead (dCons (dVar 2) (dCons (dVar 4) dNil)))) (dAsg (dVar 4) (hName 2)) dNext)
def b_overlap_4 : TSd := (dIfS (dTst (dFn0 sp_is_ahead (dCons (dVar 5) (dCons (dVar 3) dNil)))) (dAsg (dVar 5) (hName 3)) dNext)
def b_overlap_5 : TSd := (dIfS (dTst (dBin rEqV (dVar 2) (dVar 3))) (dRet (dTup (dCons (dVar 2) dNil))) dNext)
def b_overlap_6 : TSd := (dRet (dIf (dTst (dFn0 sp_is_ahead (dCons (dVar 2) (dCons (dVar 3) dNil)))) (dTup (dCons (dVar 2) (dCons (dVar 3) dNil))) (dTup dNil)))
def b_overlap : TSd := (dSeq b_overlap_1 (dSeq b_overlap_2 (dSeq b_overlap_3 (dSeq b_overlap_4 (dSeq b_overlap_5 b_overlap_6)))))
def b_meet_1 : TSd := (dAsg (dFn0 sp_crossed (dCons (dFn0 sp_scaled (dCons (dBin rIxD (dVar 0) (dC (.int 0))) dNil)) (dCons (dFn0 sp_scaled (dCons (dBin rIxD (dVar 0) (dC (.int 1))) dNil)) dNil))) (hName 2))
def b_meet_2 : TSd := (dAsg (dFn0 sp_crossed (dCons (dFn0 sp_scaled (dCons (dBin rIxD (dVar 1) (dC (.int 0))) dNil)) (dCons (dFn0 sp_scaled (dCons (dBin rIxD (dVar 1) (dC (.int 1))) dNil)) dNil))) (hName 3))
def b_meet_3 : TSd := (dAsg (dLcV (dIter (dVar 1)) 6 dYes (dFn0 sp_sign (dCons (dFn0 sp_along (dCons (dVar 2) (dCons (dFn0 sp_scaled (dCons (dVar 6) dNil)) dNil))) dNil))) (hName 4))
def b_meet_4 : TSd := (dIfS (dTst (dBin rEqV (dVar 4) (dLstV (dCons (dC (.int 0)) (dCons (dC (.int 0)) dNil))))) (dRet (dFn0 sp_overlap (dCons (dVar 0) (dCons (dVar 1) dNil)))) dNext)
def b_meet_5 : TSd := (dAsg (dLcV (dIter (dVar 0)) 6 dYes (dFn0 sp_sign (dCons (dFn0 sp_along (dCons (dVar 3) (dCons (dFn0 sp_scaled (dCons (dVar 6) dNil)) dNil))) dNil))) (hName 5))
def b_meet_6 : TSd := (dIfS (dOrT (dTst (dBin rGtD (dBin rMulD (dBin rIxD (dVar 4) (dC (.int 0))) (dBin rIxD (dVar 4) (dC (.int 1)))) (dC (.int 0)))) (dTst (dBin rGtD (dBin rMulD (dBin rIxD (dVar 5) (dC (.int 0))) (dBin rIxD (dVar 5) (dC (.int 1)))) (dC (.int 0))))) (dRet (dTup dNil)) dNext)
def b_meet_7 : TSd := (dRet (dTup (dCons (dFn0 sp_unscaled (dCons (dFn0 sp_crossed (dCons (dVar 2) (dCons (dVar 3) dNil))) dNil)) dNil)))
def b_meet : TSd := (dSeq b_meet_1 (dSeq b_meet_2 (dSeq b_meet_3 (dSeq b_meet_4 (dSeq b_meet_5 (dSeq b_meet_6 b_meet_7))))))
def b_common_1 : TSd := (dDrop (dFn0 sp_check_segment (dCons (dVar 0) dNil)))
def b_common_2 : TSd := (dDrop (dFn0 sp_check_segment (dCons (dVar 1) dNil)))
def b_common_3 : TSd := (dRet (dFn0 sp_meet (dCons (dVar 0) (dCons (dVar 1) dNil))))
def b_common : TSd := (dSeq b_common_1 (dSeq b_common_2 b_common_3))
def b_bottom_1 : TSd := (dAsg (dC (.int 1)) (hName 1))
def b_bottom_2 : TSd := (dFor (dIter (dVar 0)) (hName 2) (dAsg (dBin rMulD (dBin rDivD (dVar 1) (dFn0 sp_divisor (dCons (dVar 1) (dCons (dBin rIxD (dVar 2) (dC (.int 2))) dNil)))) (dBin rIxD (dVar 2) (dC (.int 2)))) (hName 1)))
def b_bottom_3 : TSd := (dRet (dVar 1))
def b_bottom : TSd := (dSeq b_bottom_1 (dSeq b_bottom_2 b_bottom_3))
def b_rising_1 : TSd := (dAsg (dFn0 sp_bottom (dCons (dVar 0) dNil)) (hName 1))
def b_rising_2 : TSd := (dAsg (dCall cSorted (dCons (dLcV (dIter (dVar 0)) 3 dYes (dTup (dCons (dBin rMulD (dBin rIxD (dVar 3) (dC (.int 0))) (dBin rDivD (dVar 1) (dBin rIxD (dVar 3) (dC (.int 2))))) (dCons (dBin rMulD (dBin rIxD (dVar 3) (dC (.int 1))) (dBin rDivD (dVar 1) (dBin rIxD (dVar 3) (dC (.int 2))))) (dCons (dVar 3) dNil))))) dNil)) (hName 2))
def b_rising_3 : TSd := (dRet (dLcP mkV (dEnum (dCons (dVar 2) dNil)) (Pat.tup [(Pat.nm 4), (Pat.nm 3)]) (dOrT (dTst (dBin rEqV (dVar 4) (dC (.int 0)))) (dTst (dBin rNeV (dBin rIxD (dVar 2) (dBin rSubD (dVar 4) (dC (.int 1)))) (dVar 3)))) (dBin rIxD (dVar 3) (dC (.int 2)))))
def b_rising : TSd := (dSeq b_rising_1 (dSeq b_rising_2 b_rising_3))
def b_l_meet_1 : TSd := (dAsg (dTup (dCons (dVar 0) (dCons (dVar 1) dNil))) (hTup 2 (hCons (hTup 2 (hCons (hName 2) (hCons (hName 3) hNil))) (hCons (hTup 2 (hCons (hName 4) (hCons (hName 5) hNil))) hNil))))
def b_l_meet_2 : TSd := (dAsg (dTup (dCons (dFn0 sp_side (dCons (dVar 4) (dCons (dVar 5) (dCons (dVar 2) dNil)))) (dCons (dFn0 sp_side (dCons (dVar 4) (dCons (dVar 5) (dCons (dVar 3) dNil)))) (dCons (dFn0 sp_side (dCons (dVar 2) (dCons (dVar 3) (dCons (dVar 4) dNil)))) (dCons (dFn0 sp_side (dCons (dVar 2) (dCons (dVar 3) (dCons (dVar 5) dNil)))) dNil))))) (hTup 4 (hCons (hName 6) (hCons (hName 7) (hCons (hName 8) (hCons (hName 9) hNil))))))
def b_l_meet_3 : TSd := (dIfS (dAndT (dTst (dBin rEqV (dVar 8) (dC (.int 0)))) (dTst (dBin rEqV (dVar 9) (dC (.int 0))))) (dSeq (dAsg (dLcV (dIter (dVar 0)) 11 (dTst (dFn0 sp_l_lies_on (dCons (dVar 4) (dCons (dVar 5) (dCons (dVar 11) dNil))))) (dVar 11)) (hName 10)) (dRet (dFn0 sp_rising (dCons (dBin rAddD (dVar 10) (dLcV (dIter (dVar 1)) 11 (dTst (dFn0 sp_l_lies_on (dCons (dVar 2) (dCons (dVar 3) (dCons (dVar 11) dNil))))) (dVar 11))) dNil)))) dNext)
def b_l_meet_4 : TSd := (dIfS (dOrT (dTst (dBin rGtD (dBin rMulD (dVar 6) (dVar 7)) (dC (.int 0)))) (dTst (dBin rGtD (dBin rMulD (dVar 8) (dVar 9)) (dC (.int 0))))) (dRet (dLstV dNil)) dNext)
def b_l_meet_5 : TSd := (dRet (dLstV (dCons (dFn0 sp_place (dCons (dBin rSubD (dBin rMulD (dVar 6) (dBin rIxD (dVar 3) (dC (.int 0)))) (dBin rMulD (dVar 7) (dBin rIxD (dVar 2) (dC (.int 0))))) (dCons (dBin rSubD (dBin rMulD (dVar 6) (dBin rIxD (dVar 3) (dC (.int 1)))) (dBin rMulD (dVar 7) (dBin rIxD (dVar 2) (dC (.int 1))))) (dCons (dBin rSubD (dBin rMulD (dVar 6) (dBin rIxD (dVar 3) (dC (.int 2)))) (dBin rMulD (dVar 7) (dBin rIxD (dVar 2) (dC (.int 2))))) dNil)))) dNil)))
def b_l_meet : TSd := (dSeq b_l_meet_1 (dSeq b_l_meet_2 (dSeq b_l_meet_3 (dSeq b_l_meet_4 b_l_meet_5))))
def b_frame_1 : TSd := (dAsg (dFn0 sp_one_of (dCons (dVar 0) (dCons (dTup (dCons (dC (.int 3)) (dCons (dC (.int 4)) (dCons (dC (.int 5)) dNil)))) dNil))) (hName 1))
def b_frame_2 : TSd := (dAsg (dFn0 sp_one_of (dCons (dVar 0) (dCons (dTup (dCons (dTup (dCons (dC (.int 0)) (dCons (dC (.int 0)) (dCons (dC (.int 1)) (dCons (dC (.int 1)) dNil))))) (dCons (dTup (dCons (dC (.int 0)) (dCons (dC (.int 0)) (dCons (dC (.int 1)) (dCons (dC (.int 1)) dNil))))) (dCons (dTup (dCons (dNeg (dC (.int 2))) (dCons (dNeg (dC (.int 1))) (dCons (dC (.int 1)) (dCons (dC (.int 1)) dNil))))) (dCons (dTup (dCons (dNeg (dC (.int 3))) (dCons (dC (.int 1)) (dCons (dC (.int 1)) (dCons (dC (.int 2)) dNil))))) (dCons (dTup (dCons (dC (.int 0)) (dCons (dNeg (dC (.int 5))) (dCons (dC (.int 2)) (dCons (dC (.int 3)) dNil))))) (dCons (dTup (dCons (dC (.int 1)) (dCons (dC (.int 1)) (dCons (dC (.int 5)) (dCons (dC (.int 6)) dNil))))) (dCons (dTup (dCons (dNeg (dC (.int 700000))) (dCons (dC (.int 250001)) (dCons (dC (.int 100003)) (dCons (dC (.int 1)) dNil))))) (dCons (dTup (dCons (dNeg (dC (.int 1))) (dCons (dNeg (dC (.int 2))) (dCons (dC (.int 2)) (dCons (dC (.int 1)) dNil))))) dNil))))))))) dNil))) (hTup 4 (hCons (hName 2) (hCons (hName 3) (hCons (hName 4) (hCons (hName 5) hNil))))))
def b_frame_3 : TSd := (dRet (dTup (dCons (dVar 2) (dCons (dVar 3) (dCons (dVar 4) (dCons (dVar 5) (dCons (dVar 1) dNil)))))))
def b_frame : TSd := (dSeq b_frame_1 (dSeq b_frame_2 b_frame_3))
def b_grid_1 : TSd := (dAsg (dVar 0) (hTup 5 (hCons (hName 4) (hCons (hName 5) (hCons (hName 6) (hCons (hName 7) (hCons (hName 8) hNil)))))))
def b_grid_2 : TSd := (dRet (dTup (dCons (dFn0 sp_part (dCons (dBin rAddD (dBin rMulD (dVar 4) (dVar 3)) (dBin rMulD (dVar 6) (dVar 1))) (dCons (dBin rMulD (dVar 7) (dVar 3)) dNil))) (dCons (dFn0 sp_part (dCons (dBin rAddD (dBin rMulD (dVar 5) (dVar 3)) (dBin rMulD (dVar 6) (dVar 2))) (dCons (dBin rMulD (dVar 7) (dVar 3)) dNil))) dNil))))
def b_grid : TSd := (dSeq b_grid_1 b_grid_2)
def b_dot_1 : TSd := (dAsg (dFn0 sp_one_of (dCons (dVar 0) (dCons (dTup (dCons (dC (.int 1)) (dCons (dC (.int 1)) (dCons (dC (.int 2)) (dCons (dC (.int 2)) (dCons (dC (.int 3)) dNil)))))) dNil))) (hName 2))
def b_dot_2 : TSd := (dPar 3 4 (dCons (dFn0 sp_draw (dCons (dVar 0) (dCons (dBin rAddD (dBin rMulD (dVar 2) (dBin rIxD (dVar 1) (dC (.int 4)))) (dC (.int 1))) dNil))) (dCons (dFn0 sp_draw (dCons (dVar 0) (dCons (dBin rAddD (dBin rMulD (dVar 2) (dBin rIxD (dVar 1) (dC (.int 4)))) (dC (.int 1))) dNil))) dNil)))
def b_dot_3 : TSd := (dRet (dFn0 sp_grid (dCons (dVar 1) (dCons (dVar 3) (dCons (dVar 4) (dCons (dVar 2) dNil))))))
def b_dot : TSd := (dSeq b_dot_1 (dSeq b_dot_2 b_dot_3))
def b_row_1 : TSd := (dAsg (dBin rIxD (dVar 1) (dC (.int 4))) (hName 4))
def b_row_2 : TSd := (dAsg (dLst (dCons (dFn0 sp_draw (dCons (dVar 0) (dCons (dBin rMulD (dVar 4) (dVar 4)) dNil))) dNil)) (hName 5))
def b_row_3 : TSd := (dFor (dRng2 (dCons (dC (.int 1)) (dCons (dVar 2) dNil))) (hName 6) (dSeq (dAsg (dIf (dAndT (dTst (dVar 3)) (dTst (dBin rEqV (dVar 6) (dBin rSubD (dVar 2) (dC (.int 1)))))) (dLstV (dCons (dBin rIxD (dVar 5) (dNeg (dC (.int 1)))) (dCons (dBin rIxD (dVar 5) (dC (.int 0))) dNil))) (dLstV (dCons (dBin rIxD (dVar 5) (dNeg (dC (.int 1)))) dNil))) (hName 7)) (dDrop (dApp (dVar 5) (dFn0 sp_one_of (dCons (dVar 0) (dCons (dLcV (dRng1 (dCons (dBin rMulD (dVar 4) (dVar 4)) dNil)) 8 (dTst (dBin (rInV true) (dVar 8) (dVar 7))) (dVar 8)) dNil)))))))
def b_row_4 : TSd := (dRet (dCall cTuple (dCons (dLcV (dIter (dVar 5)) 8 dYes (dFn0 sp_grid (dCons (dVar 1) (dCons (dBin rDivD (dVar 8) (dVar 4)) (dCons (dBin rModD (dCall cInt (dCons (dVar 8) dNil)) (dVar 4)) (dCons (dC (.int 1)) dNil)))))) dNil)))
def b_row : TSd := (dSeq b_row_1 (dSeq b_row_2 (dSeq b_row_3 b_row_4)))
def b_places : TSd := (dRet (dLcV (dIter (dVar 0)) 1 dYes (dTup (dCons (dFn0 sp_own (dCons (dBin rIxD (dVar 1) (dC (.int 0))) dNil)) (dCons (dFn0 sp_own (dCons (dBin rIxD (dVar 1) (dC (.int 1))) dNil)) dNil)))))
def b_middle : TSd := (dRet (dFn0 sp_place (dCons (dBin rAddD (dBin rMulD (dBin rIxD (dVar 0) (dC (.int 0))) (dBin rIxD (dVar 1) (dC (.int 2)))) (dBin rMulD (dBin rIxD (dVar 1) (dC (.int 0))) (dBin rIxD (dVar 0) (dC (.int 2))))) (dCons (dBin rAddD (dBin rMulD (dBin rIxD (dVar 0) (dC (.int 1))) (dBin rIxD (dVar 1) (dC (.int 2)))) (dBin rMulD (dBin rIxD (dVar 1) (dC (.int 1))) (dBin rIxD (dVar 0) (dC (.int 2))))) (dCons (dBin rMulD (dBin rMulD (dC (.int 2)) (dBin rIxD (dVar 0) (dC (.int 2)))) (dBin rIxD (dVar 1) (dC (.int 2)))) dNil)))))
def b_any_place_1 : TSd := (dAsg (dFn0 sp_draw (dCons (dVar 0) (dCons (dC (.int 7)) dNil))) (hName 4))
def b_any_place_2 : TSd := (dIfS (dAndT (dTst (dBin rLtD (dVar 4) (dC (.int 4)))) (dTst (dBin rNeV (dVar 2) (dLstV dNil)))) (dSeq (dPar 5 6 (dCons (dFn0 sp_one_of (dCons (dVar 0) (dCons (dVar 2) dNil))) (dCons (dFn0 sp_one_of (dCons (dVar 0) (dCons (dVar 2) dNil))) dNil))) (dSeq (dAsg (dIf (dTst (dBin rEqV (dVar 4) (dC (.int 2)))) (dFn0 sp_l_meet (dCons (dVar 5) (dCons (dVar 6) dNil))) (dIf (dTst (dBin rEqV (dVar 4) (dC (.int 1)))) (dLstV (dCons (dBin rIxD (dVar 5) (dC (.int 0))) dNil)) (dLstV dNil))) (hName 7)) (dSeq (dIfS (dTst (dBin rNeV (dVar 7) (dLstV dNil))) (dRet (dFn0 sp_one_of (dCons (dVar 0) (dCons (dVar 7) dNil)))) dNext) (dRet (dIf (dTst (dBin rEqV (dVar 4) (dC (.int 0)))) (dFn0 sp_middle (dCons (dBin rIxD (dVar 5) (dC (.int 0))) (dCons (dBin rIxD (dVar 5) (dC (.int 1))) dNil))) (dFn0 sp_middle (dCons (dBin rIxD (dVar 6) (dC (.int 0))) (dCons (dBin rIxD (dVar 5) (dC (.int 1))) dNil)))))))) dNext)
def b_any_place_3 : TSd := (dIfS (dAndT (dTst (dBin rEqV (dVar 4) (dC (.int 4)))) (dTst (dBin rNeV (dVar 3) (dLstV dNil)))) (dRet (dFn0 sp_one_of (dCons (dVar 0) (dCons (dVar 3) dNil)))) dNext)
def b_any_place_4 : TSd := (dRet (dFn0 sp_own (dCons (dFn0 sp_dot (dCons (dVar 0) (dCons (dVar 1) dNil))) dNil)))
def b_any_place : TSd := (dSeq b_any_place_1 (dSeq b_any_place_2 (dSeq b_any_place_3 b_any_place_4)))
end LB
local macro_rules | `(tactic| walk_at "val") => `(tactic| repeat' (first | exact DL.vls_nil | apply DL.vls_cons | exact DL.val_c | exact DL.val_dict | exact DL.val_neg | exact DL.val_var rfl | apply DL.val_tup | apply DL.val_lst | apply DL.val_lstV | exact DL.val_pow ⟨by decide, by decide, by decide⟩ | decide))
local macro_rules | `(tactic| walk_at "st") => `(tactic| simp only [DL.startD, List.map_cons, List.map_nil, List.length_cons, List.length_nil, Nat.reduceAdd, Nat.reduceSub, List.replicate_succ, List.replicate_zero, List.cons_append, List.nil_append, List.append_nil, Nat.sub_self, Nat.zero_add])
local macro_rules | `(tactic| walk_at "go") => `(tactic| simp only [↓DL.dSeq, ↓DL.dNext, ↓DL.dAsg, ↓DL.dRet, ↓DL.dRetN, ↓DL.dIfS, ↓DL.dDrop, ↓DL.dBin, ↓DL.dCons, ↓DL.dNil, ↓DL.dTup, ↓DL.dC, ↓DL.dNeg, ↓DL.dAnd, ↓DL.dOr, ↓DL.dNot, ↓DL.dIf, ↓DL.dTst, ↓DL.asB, ↓DL.dChain, ↓DL.dAndT, ↓DL.dOrT, ↓DL.dNotT, ↓DL.dCall, ↓DL.dFn0, ↓DL.dFnK, ↓DL.dIs, ↓DL.dSl, ↓DL.dNoP, ↓DL.dPart, ↓DL.dRev, ↓DL.dLst, ↓DL.dLstV, ↓DL.cListV, ↓DL.dDict, ↓DL.dPar, ↓DL.dPar3, ↓DL.tup2, ↓DL.tup3, ↓DL.tup4, ↓DL.tup5, ↓DL.tup22, ↓DL.tup12, ↓DL.hName, ↓DL.hSub, ↓DL.rI2, ↓DL.rSubD, ↓DL.rMulD, ↓DL.rMulX, ↓DL.rDivF, ↓DL.rDivD, ↓DL.rModD, ↓DL.rPowD, ↓DL.rLtD, ↓DL.rLeD, ↓DL.rGtD, ↓DL.rGeD, ↓DL.rAddD, ↓DL.ixt_0, ↓DL.ixt_1, ↓DL.ixt_2, ↓DL.ixt_3, ↓DL.ixt_4, ↓DL.ixl_0, ↓DL.ixl_1, ↓DL.ixl_2, ↓DL.ixl_3, ↓DL.ixl_4, ↓DL.rEqV, ↓DL.rNeV, ↓DL.rSlD, ↓DL.cLen, ↓DL.cAbs, ↓DL.cInt, ↓DL.cStrI, ↓DL.cDivmod, ↓DL.cMin, ↓DL.cMax, ↓DL.cGcd, ↓DL.cLcm, ↓DL.cAll, ↓DL.cRepr, ↓DL.cList, ↓DL.cTuple, ↓DL.rC1, ↓DL.rC2, ↓DL.dNever, ↓DL.dIter, ↓DL.dRng1, ↓DL.dRng2, ↓DL.dYes,
  ↓DL.frz_d, ↓DL.var_zero, ↓DL.var_succ, ↓DL.var_set, ↓DL.var_ne, DL.own_some, DL.no_own2, DL.eqv_int, DL.sh_int, DL.sh_bool, DL.kit_int, DL.kit_bool, DL.kit_tuple, DL.kit_str, DL.is_int, DL.is_bool, DL.is_tuple, DL.is_str, DL.pures_nil, DL.pures_cons, Option.map_some, List.length_cons, List.length_nil, List.length_set, List.map_cons, List.map_nil, DL.pick, List.filterMap_cons, List.filterMap_nil,
  true_and, and_true, ite_true, ite_false, if_true, if_false, reduceIte, reduceCtorEq, ne_eq, not_false_eq_true, Nat.reduceAdd, Nat.reduceLT, Nat.reduceEqDiff, decide_eq_true_eq, Bool.not_true, Bool.not_false, Bool.false_eq_true, eq_self])
local macro_rules | `(tactic| walk_at "gk") => `(tactic| simp only [↓LB.sp_divisor, ↓LB.sp_part, ↓LB.sp_place, ↓LB.sp_is_whole, ↓LB.sp_l_is_whole, ↓LB.sp_is_row, ↓LB.sp_is_lot, ↓LB.sp_is_fraction, ↓LB.sp_l_is_fraction, ↓LB.sp_is_place, ↓LB.sp_is_point, ↓LB.sp_is_told, ↓LB.sp_told, ↓LB.sp_own, ↓LB.sp_side, ↓LB.sp_l_is_less, ↓LB.sp_l_lies_on, ↓LB.sp_l_sign, ↓LB.sp_sign, ↓LB.sp_scaled, ↓LB.sp_crossed, ↓LB.sp_along, ↓LB.sp_is_less, ↓DL.dSeq, ↓DL.dNext, ↓DL.dAsg, ↓DL.dRet, ↓DL.dRetN, ↓DL.dIfS, ↓DL.dDrop, ↓DL.dBin, ↓DL.dCons, ↓DL.dNil, ↓DL.dTup, ↓DL.dC, ↓DL.dNeg, ↓DL.dAnd, ↓DL.dOr, ↓DL.dNot, ↓DL.dIf, ↓DL.dTst, ↓DL.asB, ↓DL.dChain, ↓DL.dAndT, ↓DL.dOrT, ↓DL.dNotT, ↓DL.dCall, ↓DL.dFn0, ↓DL.dFnK, ↓DL.dIs, ↓DL.dSl, ↓DL.dNoP, ↓DL.dPart, ↓DL.dRev, ↓DL.dLst, ↓DL.dLstV, ↓DL.cListV, ↓DL.dDict, ↓DL.dPar, ↓DL.dPar3, ↓DL.tup2, ↓DL.tup3, ↓DL.tup4, ↓DL.tup5, ↓DL.tup22, ↓DL.tup12, ↓DL.hName, ↓DL.hSub, ↓DL.rI2, ↓DL.rSubD, ↓DL.rMulD, ↓DL.rMulX, ↓DL.rDivF, ↓DL.rDivD, ↓DL.rModD, ↓DL.rPowD, ↓DL.rLtD, ↓DL.rLeD, ↓DL.rGtD, ↓DL.rGeD, ↓DL.rAddD, ↓DL.ixt_0, ↓DL.ixt_1, ↓DL.ixt_2, ↓DL.ixt_3, ↓DL.ixt_4, ↓DL.ixl_0, ↓DL.ixl_1, ↓DL.ixl_2, ↓DL.ixl_3, ↓DL.ixl_4, ↓DL.rEqV, ↓DL.rNeV, ↓DL.rSlD, ↓DL.cLen, ↓DL.cAbs, ↓DL.cInt, ↓DL.cStrI, ↓DL.cDivmod, ↓DL.cMin, ↓DL.cMax, ↓DL.cGcd, ↓DL.cLcm, ↓DL.cAll, ↓DL.cRepr, ↓DL.cList, ↓DL.cTuple, ↓DL.rC1, ↓DL.rC2, ↓DL.dNever, ↓DL.dIter, ↓DL.dRng1, ↓DL.dRng2, ↓DL.dYes,
  ↓DL.frz_d, ↓DL.var_zero, ↓DL.var_succ, ↓DL.var_set, ↓DL.var_ne, DL.own_some, DL.no_own2, DL.eqv_int, DL.sh_int, DL.sh_bool, DL.kit_int, DL.kit_bool, DL.kit_tuple, DL.kit_str, DL.is_int, DL.is_bool, DL.is_tuple, DL.is_str, DL.pures_nil, DL.pures_cons, Option.map_some, List.length_cons, List.length_nil, List.length_set, List.map_cons, List.map_nil, DL.pick, List.filterMap_cons, List.filterMap_nil,
  true_and, and_true, ite_true, ite_false, if_true, if_false, reduceIte, reduceCtorEq, ne_eq, not_false_eq_true, Nat.reduceAdd, Nat.reduceLT, Nat.reduceEqDiff, decide_eq_true_eq, Bool.not_true, Bool.not_false, Bool.false_eq_true, eq_self])
namespace LB
open PySem PySem.Spec PyProof.Rows L2 DL
theorem draw_ {p : Addr} {m : Int} {st : Sto} {Q : Kd} {n : Nat} {ys : List D} (hst : st p = some ys) (hy : SprL ys n) (hn : n + 1 < 2 ^ 40) (h0 : 0 < m) (h1 : m < 2 ^ 40)
    (k : ∀ (i : Int) (zs : List D), 0 ≤ i → i < m → SprL zs (n + 1) → Q (I i) (put st p zs)) : sp_draw [.own p, I m] st Q :=
  ⟨h0, h1, n, ys, hst, hy, hn, fun d xs' ⟨i, e, i0, i1⟩ hx => by
    rw [e]
    exact k i xs' i0 i1 hx⟩
theorem one_tup {p : Addr} {xs : List PyData} {st : Sto} {Q : Kd} {n : Nat} {ys : List D} (hst : st p = some ys) (hy : SprL ys n) (hn : n + 1 < 2 ^ 40) (h0 : 0 < xs.length) (h1 : xs.length < 1000)
    (k : ∀ (x : PyData) (zs : List D), x ∈ xs → SprL zs (n + 1) → Q (.d x) (put st p zs)) : sp_one_of [.own p, .d (.tuple xs)] st Q :=
  ⟨h0, h1, n, ys, hst, hy, hn, fun d xs' ⟨x, e, hx⟩ hz => by
    rw [e]
    exact k x xs' hx hz⟩
theorem one_lst {p : Addr} {xs : List PyData} {st : Sto} {Q : Kd} {n : Nat} {ys : List D} (hst : st p = some ys) (hy : SprL ys n) (hn : n + 1 < 2 ^ 40) (h0 : 0 < xs.length) (h1 : xs.length < 1000)
    (k : ∀ (x : PyData) (zs : List D), x ∈ xs → SprL zs (n + 1) → Q (.d x) (put st p zs)) : sp_one_of [.own p, .d (.list xs)] st Q :=
  ⟨h0, h1, n, ys, hst, hy, hn, fun d xs' ⟨x, e, hx⟩ hz => by
    rw [e]
    exact k x xs' hx hz⟩
/-- .. done: what came is told -/
theorem spS_done {c m : Nat} {post : D → Prop} {p : Addr} {st : Sto} {Q : Kd} {n : Nat} {d : D} {zs : List D} (k : ∀ d xs', post d → SprL xs' (n + c) → Q d (put st p xs')) (h : post d) (hz : SprL zs m) (hm : m ≤ n + c) : Q d (put st p zs) := k d zs h (hz.mono hm)
theorem mulW' {i j : Int} {a b : Nat} (ha : B a i) (hb : B b j) (h0 : 0 < a := by decide) (h1 : 0 < b := by decide) (h : a + b ≤ 1000000 := by decide) : CMulW i j := mulW ha hb h0 h1 h
theorem B_mul' {a b : Nat} {i j : Int} (h : B a i) (g : B b j) : B (a + b) (i * j) := B_mul h g (Nat.le_refl _)
theorem B_lt {n : Nat} {i : Int} (k : Nat) (h0 : -(k : Int) < i) (h1 : i < k) (h : k ≤ 2 ^ n) : B n i := B_of k (by omega) h
theorem r_frame : ∀ ds st Q, sp_frame ds st Q → b_frame { nx := fun _ s' => Q (.d .none) s', rt := Q } (startD N_frame ds) st := by
  intro ds st Q h
  unfold sp_frame at h
  split at h
  · rename_i p
    obtain ⟨n, ys, hst, hy, hn, k⟩ := h
    walk_at "st"
    unfold b_frame b_frame_1 b_frame_2 b_frame_3
    walk_at "gk"
    refine ⟨big_ok (by decide), ?_⟩
    refine one_tup hst hy (by omega) (by decide) (by decide) fun v zs hv hy => Or.inl ?_
    have hw : ∃ w : Int, v = .int w ∧ 3 ≤ w ∧ w ≤ 5 := by
      simp only [List.mem_cons, List.not_mem_nil, or_false] at hv
      rcases hv with rfl | rfl | rfl <;> exact ⟨_, rfl, by decide, by decide⟩
    obtain ⟨w, rfl, w0, w1⟩ := hw
    iterate 8 refine ⟨big_ok (by decide), ?_⟩
    refine ⟨big_ok (by decide), ?_⟩
    refine one_tup put_same hy (by omega) (by decide) (by decide) fun v zs hv hy => Or.inl ?_
    have hf : ∃ x y s u : Int, v = .tuple [.int x, .int y, .int s, .int u] ∧ B 20 x ∧ B 20 y ∧ 0 < s ∧ B 20 s ∧ 0 < u ∧ B 3 u := by
      simp only [List.mem_cons, List.not_mem_nil, or_false] at hv
      rcases hv with rfl | rfl | rfl | rfl | rfl | rfl | rfl | rfl <;> exact ⟨_, _, _, _, rfl, by unfold B; decide, by unfold B; decide, by decide, by unfold B; decide, by decide, by unfold B; decide⟩
    obtain ⟨x, y, s, u, rfl, bx, by_, s0, bs, u0, bu⟩ := hf
    rw [put_put]
    walk_at "gk"
    refine ⟨big_ok (by decide), ?_⟩
    exact spS_done k ⟨x, y, s, u, w, rfl, ⟨bx, by_, s0, bs, u0, bu, w0, w1⟩⟩ hy (by omega)
  · exact h.elim
theorem r_grid : ∀ ds st Q, sp_grid ds st Q → b_grid { nx := fun _ s' => Q (.d .none) s', rt := Q } (startD N_grid ds) st := by
  intro ds st Q h
  unfold sp_grid at h
  split at h
  · rename_i x y s u w i j n
    obtain ⟨⟨bx, by_, s0, bs, u0, bu, w0, w1⟩, n0, n1, bi, bj, q⟩ := h
    walk_at "st"
    unfold b_grid b_grid_1 b_grid_2
    walk_at "gk"
    have bn : B 7 n := B_lt 100 (by omega) (by omega) (by decide)
    have e1 : ∀ {a b : Int}, B 20 a → B 20 b → B 8000 (a * n + s * b) := fun h g => B_add (B_mul' h bn) (B_mul' bs g) (by decide) (by decide)
    have e2 : B 8000 (u * n) := B_mono (B_mul' bu bn) (by decide)
    exact ⟨mulW' bx bn, mulW' bs bi, mulW' bu bn, Int.mul_pos u0 n0, e1 bx bi, e2, mulW' by_ bn, mulW' bs bj, mulW' bu bn, Int.mul_pos u0 n0, e1 by_ bj, e2, big_ok (by decide), q⟩
  · exact h.elim
theorem part_ok {t b : Int} (hb : 0 < b) : 0 < b / gc t b ∧ gc (t / gc t b) (b / gc t b) = 1 := ⟨div_pos hb (gc_pos hb) (gc_dr _ _), gc_low hb⟩
theorem gridP_G {x y s u w i j n : Int} (F : FrOk x y s u w) (n0 : 0 < n) (n1 : n < 8) (bi : B 6 i) (bj : B 6 j) : (gridP x y s u i j n).G := by
  obtain ⟨bx, by_, s0, bs, u0, bu, w0, w1⟩ := F
  have bn : B 3 n := B_lt 8 (by omega) (by omega) (by decide)
  have e1 : ∀ {a b : Int}, B 20 a → B 6 b → B 45 (a * n + s * b) := fun h g => B_add (B_mul' h bn) (B_mul' bs g) (by decide) (by decide)
  have e2 : B 20 (u * n) := B_mono (B_mul' bu bn) (by decide)
  have p := Int.mul_pos u0 n0
  have h1 := part_ok (t := x * n + s * i) p
  have h2 := part_ok (t := y * n + s * j) p
  exact ⟨h1.1, h2.1, h1.2, h2.2, B_div (e1 bx bi), B_div e2, B_div (e1 by_ bj), B_div e2⟩
theorem r_dot : ∀ ds st Q, sp_dot ds st Q → b_dot { nx := fun _ s' => Q (.d .none) s', rt := Q } (startD N_dot ds) st := by
  intro ds st Q h
  unfold sp_dot at h
  split at h
  · rename_i p x y s u w
    obtain ⟨F, n, ys, hst, hy, hn, k⟩ := h
    walk_at "st"
    unfold b_dot b_dot_1 b_dot_2 b_dot_3
    walk_at "gk"
    refine ⟨big_ok (by decide), ?_⟩
    refine one_tup hst hy (by omega) (by decide) (by decide) fun v zs hv hy => Or.inl ?_
    have hm : ∃ m : Int, v = .int m ∧ 1 ≤ m ∧ m ≤ 3 := by
      simp only [List.mem_cons, List.not_mem_nil, or_false] at hv
      rcases hv with rfl | rfl | rfl | rfl | rfl <;> exact ⟨_, rfl, by decide, by decide⟩
    obtain ⟨m, rfl, m0, m1⟩ := hm
    have bm : B 3 m := B_lt 8 (by omega) (by omega) (by decide)
    have bw : B 3 w := B_lt 8 (by have := F.w0; omega) (by have := F.w1; omega) (by decide)
    have hw := F.w0
    have hw1 := F.w1
    have lim : 0 ≤ m * w ∧ m * w ≤ 15 := by
      have h1 : m * w ≤ 3 * 5 := Int.mul_le_mul m1 hw1 (by omega) (by decide)
      exact ⟨Int.mul_nonneg (by omega) (by omega), by omega⟩
    walk_at "gk"
    generalize m * w = c at *
    refine ⟨mulW' bm bw, draw_ put_same hy (by omega) (by omega) (by omega) fun i zs i0 i1 hy => ?_⟩
    rw [put_put]
    refine ⟨mulW' bm bw, draw_ put_same hy (by omega) (by omega) (by omega) fun j zs j0 j1 hy => ?_⟩
    rw [put_put]
    refine ⟨F, by omega, by omega, B_lt 16 (by omega) (by omega) (by decide), B_lt 16 (by omega) (by omega) (by decide), Or.inl ?_⟩
    exact spS_done k ⟨_, rfl, gridP_G F (by omega) (by omega) (B_lt 16 (by omega) (by omega) (by decide)) (B_lt 16 (by omega) (by omega) (by decide))⟩ hy (by omega)
  · exact h.elim
/-- a step of an index, led by the frame -/
theorem gridP_inj {x y s u w i j i' j' n : Int} (F : FrOk x y s u w) (n0 : 0 < n) (h : gridP x y s u i j n = gridP x y s u i' j' n) : i = i' ∧ j = j' := by
  have p := Int.mul_pos F.u0 n0
  have key : ∀ {t t' : Int}, t / gc t (u * n) = t' / gc t' (u * n) → (u * n) / gc t (u * n) = (u * n) / gc t' (u * n) → t = t' := by
    intro t t' h1 h2
    have e1 := cancel (gc_dl t (u * n))
    have e2 := cancel (gc_dr t (u * n))
    have e3 := cancel (gc_dl t' (u * n))
    have e4 := cancel (gc_dr t' (u * n))
    have g1 := gc_pos (a := t) p
    have g2 := gc_pos (a := t') p
    have d := div_pos p g1 (gc_dr t (u * n))
    rw [← h2] at e4
    have : gc t (u * n) = gc t' (u * n) := Int.eq_of_mul_eq_mul_right (by omega) (e2.trans e4.symm)
    rw [← e1, ← e3, h1, this]
  injection h with h1 h2 h3 h4
  have a := key h1 h2
  have b := key h3 h4
  have s0 := F.s0
  exact ⟨Int.eq_of_mul_eq_mul_left (a := s) (by omega) (by omega), Int.eq_of_mul_eq_mul_left (a := s) (by omega) (by omega)⟩
end LB
namespace LB
open PySem PySem.Spec PyProof.Rows L2 DL
theorem atI_last {α : Type} {xs : List α} {x : α} (h : xs[xs.length - 1]? = some x) : atI xs (-1) = some x := by
  have hl : xs.length - 1 < xs.length := (List.getElem?_eq_some_iff.mp h).1
  unfold atI ixN
  rw [if_neg (by decide), if_pos (by omega)]
  show xs[((-1 : Int) + (xs.length : Nat)).toNat]? = some x
  rw [show ((-1 : Int) + (xs.length : Nat)).toNat = xs.length - 1 by omega]
  exact h
theorem atI_zero {α : Type} {xs : List α} {x : α} (h : xs[0]? = some x) : atI xs 0 = some x := atI_nat (j := 0) h
/-- a comprehension with a test -/
theorem lcV_filt {ti : TId} {i : Nat} {tt : TTd} {te : TEd} {e : Ed} {st : Sto} {Q : Kd} (xs : List D) (g : D → Bool) (f : D → PyData) (hti : ∀ R : ItD → Sto → Prop, R ⟨xs, none⟩ st → ti e st R) (hl : xs.length < sizeLine)
    (ht : ∀ d ∈ xs, ∀ K : Bool → Sto → Prop, K (g d) st → tt (e.set i (some d)) st K)
    (hf : ∀ d ∈ xs, ∀ K : Kd, K (.d (f d)) st → te (e.set i (some d)) st K) (q : Q (.d (.list ((xs.filter g).map f))) st) : dLcV ti i tt te e st Q := by
  refine hti _ ⟨fun j acc st' => st' = st ∧ j ≤ xs.length ∧ acc = ((xs.take j).filter g).map fun d => D.d (f d), ⟨rfl, Nat.zero_le _, rfl⟩, ?_⟩
  rintro j acc st' ⟨rfl, hj, rfl⟩
  refine ⟨(fun a ds z => nomatch z), fun hd => ?_, fun d hd => ?_⟩
  · have e1 : xs.take j = xs := List.take_of_length_le hd
    rw [e1]
    refine ⟨(xs.filter g).map f, ?_, q⟩
    rw [show ((xs.filter g).map fun d => D.d (f d)) = ((xs.filter g).map f).map D.d by rw [List.map_map]; rfl]
    exact pures_map _
  · have hd' : xs[j]? = some d := hd
    have hlt : j < xs.length := (List.getElem?_eq_some_iff.mp hd').1
    have hm := List.mem_of_getElem? hd'
    refine ht d hm _ ?_
    cases hg : g d with
    | false =>
      rw [if_neg (by decide)]
      refine ⟨rfl, hlt, ?_⟩
      rw [List.take_add_one, hd', List.filter_append, List.map_append]
      simp [hg]
    | true =>
      rw [if_pos rfl]
      refine hf d hm _ ⟨?_, rfl, hlt, ?_⟩
      · rw [List.length_map]
        have := List.length_filter_le g (xs.take j)
        rw [List.length_take] at this
        omega
      · rw [List.take_add_one, hd', List.filter_append, List.map_append]
        simp [hg]
def ChainI : List Int → Prop
  | a :: b :: r => a ≠ b ∧ ChainI (b :: r)
  | _ => True
theorem chain_snoc : ∀ {cs : List Int} {z : Int}, ChainI cs → (∀ l, cs[cs.length - 1]? = some l → l ≠ z) → ChainI (cs ++ [z])
  | [], _, _, _ => trivial
  | [a], z, _, h => ⟨h a rfl, trivial⟩
  | a :: b :: r, z, hc, h => ⟨hc.1, chain_snoc (cs := b :: r) hc.2 fun l hl => h l (by simpa using hl)⟩
theorem chain_map {f : Int → Pt} {P : Int → Prop} (inj : ∀ a b, P a → P b → f a = f b → a = b) : ∀ {cs : List Int}, (∀ c ∈ cs, P c) → ChainI cs → Chain (cs.map f)
  | [], _, _ => trivial
  | [_], _, _ => trivial
  | a :: b :: r, hp, hc => ⟨fun e => hc.1 (inj a b (hp a (by simp)) (hp b (by simp)) e), chain_map inj (cs := b :: r) (fun c h => hp c (List.mem_cons_of_mem _ h)) hc.2⟩
abbrev Ii (i : Int) : PyData := .int i
/-- one of the cells that are not shut -/
theorem free_cell {p : Addr} {w : Int} (hw : 3 ≤ w) (hw2 : w ≤ 5) {shut : List Int} (hs : shut.length ≤ 2) {e : Ed} {st : Sto} {Q : Kd} {n : Nat} {ys : List D} (hst : st p = some ys) (hy : SprL ys n) (hn : n + 1 < 2 ^ 40) (e0 : e[0]? = some (some (.own p))) (e4 : e[4]? = some (some (I w))) (e7 : e[7]? = some (some (.d (.list (shut.map Ii))))) (e8 : e.length = 9)
    (k : ∀ (c : Int) (zs : List D), 0 ≤ c → c < w * w → c ∉ shut → SprL zs (n + 1) → Q (I c) (put st p zs)) :
    dFn0 sp_one_of (dCons (dVar 0) (dCons (dLcV (dRng1 (dCons (dBin rMulD (dVar 4) (dVar 4)) dNil)) 8 (dTst (dBin (rInV true) (dVar 8) (dVar 7))) (dVar 8)) dNil)) e st Q := by
  have bw : B 3 w := B_lt 8 (by omega) (by omega) (by decide)
  have w2 : 9 ≤ w * w ∧ w * w ≤ 25 := by
    have h1 : (3 : Int) * 3 ≤ w * w := Int.mul_le_mul hw hw (by decide) (by omega)
    have h2 : w * w ≤ 5 * 5 := Int.mul_le_mul hw2 hw2 (by omega) (by decide)
    omega
  refine ⟨_, e0, ?_⟩
  refine lcV_filt ((List.range (w * w).toNat).map fun (i : Nat) => .d (.int (0 + i))) (fun d => match d with | .d (.int v) => decide (v ∉ shut) | _ => false) (fun d => match d with | .d x => x | _ => .none) (fun R hR => ?_) ?_ ?_ ?_ ?_
  · refine ⟨_, e4, _, e4, mulW' bw bw, ?_⟩
    exact ⟨by omega, by omega, hR⟩
  · rw [List.length_map, List.length_range]
    exact Nat.lt_of_le_of_lt (show (w * w).toNat ≤ 25 by omega) (by decide)
  · intro d hd K hK
    obtain ⟨i, hi, rfl⟩ := List.mem_map.mp hd
    have e8' : (e.set 8 (some (D.d (.int (0 + (i : Int))))))[8]? = some (some (.d (.int (0 + (i : Int))))) := List.getElem?_set_self (by omega)
    have e7' : (e.set 8 (some (D.d (.int (0 + (i : Int))))))[7]? = some (some (.d (.list (shut.map Ii)))) := by
      rw [List.getElem?_set_ne (by decide)]
      exact e7
    refine ⟨_, e8', _, e7', shut.map Ii, rfl, .inl ⟨rfl, ?_⟩, ?_⟩
    · simp [Ii, flatP]
    · have : (true != (shut.map Ii).any fun z => PyData.eqv z (.int (0 + (i : Int)))) = decide ((0 + (i : Int)) ∉ shut) := by
        rw [Bool.eq_iff_iff]
        simp [Ii, PyData.eqv]
        constructor
        · intro h hm
          exact h _ hm rfl
        · rintro h x hm rfl
          exact h hm
      show K _ st
      rw [this]
      exact hK
  · intro d hd K hK
    obtain ⟨i, hi, rfl⟩ := List.mem_map.mp hd
    exact ⟨_, List.getElem?_set_self (by omega), hK⟩
  · have mem : ∀ c : Int, 0 ≤ c → c < w * w → c ∉ shut → PyData.int c ∈ ((((List.range (w * w).toNat).map fun (i : Nat) => D.d (.int (0 + i))).filter (fun d => match d with | .d (.int v) => decide (v ∉ shut) | _ => false)).map (fun d => match d with | .d x => x | _ => .none)) := by
      intro c c0 c1 cs
      refine List.mem_map.mpr ⟨.d (.int c), List.mem_filter.mpr ⟨List.mem_map.mpr ⟨c.toNat, List.mem_range.mpr (by omega), ?_⟩, by simpa using cs⟩, rfl⟩
      rw [show (0 : Int) + ((c.toNat : Nat) : Int) = c by omega]
    have ex : ∃ c : Int, 0 ≤ c ∧ c < 3 ∧ c ∉ shut := by
      match shut, hs with
      | [], _ => exact ⟨0, by decide, by decide, by simp⟩
      | [a], _ =>
        by_cases h : a = 0
        · exact ⟨1, by decide, by decide, by simp [h]⟩
        · exact ⟨0, by decide, by decide, by simp; omega⟩
      | [a, b], _ =>
        by_cases h0 : a ≠ 0 ∧ b ≠ 0
        · exact ⟨0, by decide, by decide, by simp; omega⟩
        · by_cases h1 : a ≠ 1 ∧ b ≠ 1
          · exact ⟨1, by decide, by decide, by simp; omega⟩
          · exact ⟨2, by decide, by decide, by simp; omega⟩
      | _ :: _ :: _ :: _, h => exact absurd h (by simp)
    obtain ⟨c, c0, c1, c2⟩ := ex
    refine one_lst hst hy hn (List.length_pos_of_mem (mem c c0 (by omega) c2)) ?_ fun x zs hx hz => ?_
    · rw [List.length_map]
      refine Nat.lt_of_le_of_lt (List.length_filter_le _ _) ?_
      rw [List.length_map, List.length_range]
      omega
    · obtain ⟨d, hd, rfl⟩ := List.mem_map.mp hx
      obtain ⟨h1, h2⟩ := List.mem_filter.mp hd
      obtain ⟨i, hi, rfl⟩ := List.mem_map.mp h1
      have hi := List.mem_range.mp hi
      exact k _ zs (by omega) (by omega) (by simpa using h2) hz
theorem lcV_pureO {ti : TId} {i : Nat} {te : TEd} {e : Ed} {st : Sto} {Q : Kd} (xs : List D) (dep : Option (Addr × List D)) (hat : ∀ a ds, dep = some (a, ds) → st a = some ds) (f : D → PyData) (hti : ∀ R : ItD → Sto → Prop, R ⟨xs, dep⟩ st → ti e st R) (hl : xs.length < sizeLine)
    (hf : ∀ d ∈ xs, ∀ K : Kd, K (.d (f d)) st → te (e.set i (some d)) st K) (q : Q (.d (.list (xs.map f))) st) : dLcV ti i dYes te e st Q := by
  refine hti _ ⟨fun j acc st' => st' = st ∧ j ≤ xs.length ∧ acc = (xs.take j).map fun d => D.d (f d), ⟨rfl, Nat.zero_le _, rfl⟩, ?_⟩
  rintro j acc st' ⟨rfl, hj, rfl⟩
  refine ⟨hat, fun hd => ?_, fun d hd => ?_⟩
  · have e1 : xs.take j = xs := List.take_of_length_le hd
    rw [e1]
    refine ⟨xs.map f, ?_, q⟩
    rw [show (xs.map fun d => D.d (f d)) = (xs.map f).map D.d by rw [List.map_map]; rfl]
    exact pures_map _
  · have hd' : xs[j]? = some d := hd
    have hlt : j < xs.length := (List.getElem?_eq_some_iff.mp hd').1
    refine (show dYes (e.set i (some d)) st' (fun b s2 => if b = true then te (e.set i (some d)) s2 _ else _) from ?_)
    refine hf d (List.mem_of_getElem? hd') _ ⟨?_, rfl, hlt, ?_⟩
    · rw [List.length_map, List.length_take]
      omega
    · rw [List.take_add_one, hd', List.map_append]
      rfl
theorem put_comm {st : Sto} {a b : Addr} {xs ys : List D} (h : a ≠ b) : put (put st a xs) b ys = put (put st b ys) a xs := by
  funext c
  by_cases h1 : c = a
  · subst h1
    rw [put_ne h, put_same, put_same]
  · by_cases h2 : c = b
    · subst h2
      rw [put_same, put_ne h1, put_same]
    · rw [put_ne h2, put_ne h1, put_ne h1, put_ne h2]
theorem sub_put {st : Sto} {p q : Addr} {zs xs : List D} (h : q ≠ p) (hq : st q = none) : Sub (put st p zs) (put (put st p zs) q xs) := fun a => by
  by_cases e : a = q
  · subst e
    exact .inr (by rw [put_ne h]; exact hq)
  · exact .inl (by rw [put_ne e])
theorem last_map {cs : List Int} {l : Int} (h : cs[cs.length - 1]? = some l) : (cs.map fun c => I c)[(cs.map fun c => I c).length - 1]? = some (I l) := by
  rw [List.length_map, List.getElem?_map, h]
  rfl
theorem last_snoc {α : Type} (xs : List α) (x : α) : (xs ++ [x])[(xs ++ [x]).length - 1]? = some x := by
  rw [List.length_append, List.length_singleton, Nat.add_sub_cancel, List.getElem?_append_right (Nat.le_refl _), Nat.sub_self]
  rfl
theorem last_ex {α : Type} {xs : List α} (h : 0 < xs.length) : ∃ x, xs[xs.length - 1]? = some x := ⟨_, List.getElem?_eq_getElem (by omega)⟩
theorem r_row : ∀ ds st Q, sp_row ds st Q → b_row { nx := fun _ s' => RQ Q (.d .none) s', rt := RQ Q } (startD N_row ds) st := by
  intro ds st Q h
  unfold sp_row at h
  split at h
  · rename_i p x y s u w m c
    obtain ⟨F, m1, m2, n, ys, hst, hy, hn, k⟩ := h
    have w0 := F.w0
    have w1 := F.w1
    have bw : B 3 w := B_lt 8 (by omega) (by omega) (by decide)
    have ww : 9 ≤ w * w ∧ w * w ≤ 25 := by
      have h1 : (3 : Int) * 3 ≤ w * w := Int.mul_le_mul w0 w0 (by decide) (by omega)
      have h2 : w * w ≤ 5 * 5 := Int.mul_le_mul w1 w1 (by omega) (by decide)
      omega
    walk_at "st"
    unfold b_row b_row_1 b_row_2
    walk_at "gk"
    refine ⟨mulW' bw bw, draw_ hst hy (by omega) (by omega) (by omega) fun c0 zs i0 i1 hy => ?_⟩
    refine ⟨big_ok (by decide), .inr fun q hq => .inl ?_⟩
    have qp : q ≠ p := fun z => by
      rw [z, put_same] at hq
      cases hq
    have hq0 : st q = none := by
      rw [put_ne qp] at hq
      exact hq
    unfold b_row_3
    refine ⟨_, rfl, ⟨by decide, by decide, by omega, by omega⟩, ?_⟩
    refine ⟨fun i e' s' => ∃ (cs : List Int) (zs : List D) (t6 t7 : Option D), e' = [some (.own p), some (.d (.tuple [.int x, .int y, .int s, .int u, .int w])), some (I m), some (Bo c), some (I w), some (.own q), t6, t7, none] ∧ s' = put (put st p zs) q (cs.map fun c => I c) ∧ SprL zs (n + 1 + i) ∧ cs.length = i + 1 ∧ i ≤ (m - 1).toNat ∧ (∀ c ∈ cs, 0 ≤ c ∧ c < w * w) ∧ ChainI cs ∧ (c = true → i + 1 = m.toNat → 2 ≤ m → cs[cs.length - 1]? ≠ cs[0]?),
      ⟨[c0], zs, none, none, rfl, rfl, hy, rfl, Nat.zero_le _, by simpa using ⟨i0, i1⟩, trivial, fun _ h1 h2 => by omega⟩, ?_⟩
    rintro i e' s' ⟨cs, zs, t6, t7, rfl, rfl, hz, hlen, hi, hb, hch, hcl⟩
    have lenX : ((List.range (m - 1).toNat).map fun (mm : Nat) => D.d (.int (1 + mm))).length = (m - 1).toNat := by rw [List.length_map, List.length_range]
    refine ⟨(fun a ds z => nomatch z), fun hd => ?_, fun d hd => ?_⟩
    · -- behind the loop
      have hd : (m - 1).toNat ≤ i := by
        rw [← lenX]
        exact hd
      unfold b_row_4
      have fin : ∀ c : Int, 0 ≤ c → c < w * w → 0 ≤ c / w ∧ c / w < 64 ∧ 0 ≤ c % w ∧ c % w < 64 := by
        intro c h0 h1
        have := Int.emod_nonneg c (show w ≠ 0 by omega)
        have := Int.emod_lt_of_pos c (show 0 < w by omega)
        have h3 : 0 ≤ c / w := Int.ediv_nonneg h0 (by omega)
        have h4 : c / w < w := Int.ediv_lt_of_lt_mul (by omega) h1
        omega
      have s64 : ∀ i : Int, 0 ≤ i → i < 64 → B 6 i := fun i h0 h1 => B_lt 64 (by omega) (by omega) (by decide)
      show dLcV (dIter (dVar 5)) 8 dYes _ _ _ _
      refine lcV_pureO (cs.map fun c => I c) (some (q, cs.map fun c => I c)) (fun a ds z => ?_) (fun d => match d with | .d (.int v) => (gridP x y s u (v / w) (v % w) 1).py | _ => .none) (fun R hR => ⟨_, rfl, _, put_same, hR⟩) ?_ ?_ ?_
      · cases z
        exact put_same
      · rw [List.length_map, hlen]
        exact Nat.lt_of_le_of_lt (show i + 1 ≤ 20 by omega) (by decide)
      · intro d hd K hK
        obtain ⟨v, hv, rfl⟩ := List.mem_map.mp hd
        obtain ⟨f0, f1, f2, f3⟩ := fin v (hb v hv).1 (hb v hv).2
        refine ⟨_, rfl, _, rfl, _, rfl, divW (by omega) bw (by decide) (by decide), _, rfl, trivial, _, rfl, (show (0 : Int) < w by omega), ?_⟩
        exact ⟨F, by decide, by decide, B_mono (s64 _ f0 f1) (by decide), B_mono (s64 _ f2 f3) (by decide), hK⟩
      · refine ⟨((cs.map fun c => I c).map (fun d => match d with | .d (.int v) => (gridP x y s u (v / w) (v % w) 1).py | _ => .none)), rfl, .inl ⟨put st p zs, sub_put qp hq0, ?_⟩⟩
        refine k _ zs ⟨cs.map fun c => gridP x y s u (c / w) (c % w) 1, ?_, ?_, ?_, ?_, ?_⟩ (hz.mono (by omega))
        · rw [List.map_map, List.map_map]
          rfl
        · rw [List.length_map, hlen]
          omega
        · intro g hg
          obtain ⟨v, hv, rfl⟩ := List.mem_map.mp hg
          obtain ⟨f0, f1, f2, f3⟩ := fin v (hb v hv).1 (hb v hv).2
          exact gridP_G F (by decide) (by decide) (s64 _ f0 f1) (s64 _ f2 f3)
        · refine chain_map (P := fun c => 0 ≤ c ∧ c < w * w) (fun a b ha hb' e => ?_) hb hch
          obtain ⟨h1, h2⟩ := gridP_inj F (by decide) e
          have := Int.mul_ediv_add_emod a w
          have := Int.mul_ediv_add_emod b w
          rw [h1, h2] at *
          omega
        · intro hc h2
          have := hcl hc (by omega) h2
          rw [List.length_map, List.getElem?_map, List.getElem?_map]
          intro e
          apply this
          obtain ⟨l, hl⟩ := last_ex (xs := cs) (by omega)
          have hz0 : cs[0]? = some cs[0] := List.getElem?_eq_getElem (by omega)
          rw [hl, hz0] at e ⊢
          obtain ⟨h1, h2⟩ := gridP_inj F (by decide) (Option.some.inj e)
          have := Int.mul_ediv_add_emod l w
          have := Int.mul_ediv_add_emod cs[0] w
          rw [h1, h2] at *
          congr 1
          omega
    · -- a turn
      have hd' : ((List.range (m - 1).toNat).map fun (mm : Nat) => D.d (.int (1 + mm)))[i]? = some d := hd
      rw [List.getElem?_map] at hd'
      have hir : i < (m - 1).toNat := by
        have := (List.getElem?_eq_some_iff.mp hd).1
        rw [← lenX]
        exact this
      rw [List.getElem?_range hir] at hd'
      cases hd'
      obtain ⟨l, hl⟩ := last_ex (xs := cs) (by omega)
      have hz0 : cs[0]? = some cs[0] := List.getElem?_eq_getElem (by omega)
      have l1 := atI_last (last_map hl)
      have l0 : atI (cs.map fun c => I c) 0 = some (I cs[0]) := atI_zero (by rw [List.getElem?_map, hz0]; rfl)
      -- the append, behind the shut ones
      have app : ∀ shut : List Int, shut.length ≤ 2 → l ∈ shut → (c = true → (1 : Int) + i = m - 1 → cs[0] ∈ shut) →
          dDrop (dApp (dVar 5) (dFn0 sp_one_of (dCons (dVar 0) (dCons (dLcV (dRng1 (dCons (dBin rMulD (dVar 4) (dVar 4)) dNil)) 8 (dTst (dBin (rInV true) (dVar 8) (dVar 7))) (dVar 8)) dNil)))) { nx := fun e' s' => ∃ (cs : List Int) (zs : List D) (t6 t7 : Option D), e' = [some (.own p), some (.d (.tuple [.int x, .int y, .int s, .int u, .int w])), some (I m), some (Bo c), some (I w), some (.own q), t6, t7, none] ∧ s' = put (put st p zs) q (cs.map fun c => I c) ∧ SprL zs (n + 1 + (i + 1)) ∧ cs.length = (i + 1) + 1 ∧ (i + 1) ≤ (m - 1).toNat ∧ (∀ c ∈ cs, 0 ≤ c ∧ c < w * w) ∧ ChainI cs ∧ (c = true → (i + 1) + 1 = m.toNat → 2 ≤ m → cs[cs.length - 1]? ≠ cs[0]?), rt := RQ Q }
          [some (.own p), some (.d (.tuple [.int x, .int y, .int s, .int u, .int w])), some (I m), some (Bo c), some (I w), some (.own q), some (I (1 + i)), some (.d (.list (shut.map Ii))), none] (put (put st p zs) q (cs.map fun c => I c)) := by
        intro shut hs1 hs2 hs3
        refine ⟨_, rfl, by rw [put_same]; rfl, ?_⟩
        refine free_cell w0 w1 hs1 (by rw [put_ne (Ne.symm qp)]; exact put_same) hz (by omega) rfl rfl rfl rfl fun z zs2 z0 z1 zs3 hz2 => ?_
        have ec : put (put (put st p zs) q (cs.map fun c => I c)) p zs2 = put (put st p zs2) q (cs.map fun c => I c) := by
          rw [put_comm qp, put_put]
        rw [ec]
        refine ⟨cs.map fun c => I c, put_same, ?_, ?_⟩
        · rw [List.length_map, hlen]
          exact Nat.lt_of_le_of_lt (show i + 1 ≤ 20 by omega) (by decide)
        · refine ⟨cs ++ [z], zs2, _, _, rfl, ?_, hz2, ?_, by omega, ?_, ?_, ?_⟩
          · rw [put_put, List.map_append]
            rfl
          · rw [List.length_append, hlen]
            rfl
          · intro v hv
            rcases List.mem_append.mp hv with hv | hv
            · exact hb v hv
            · rw [List.mem_singleton.mp hv]
              exact ⟨z0, z1⟩
          · refine chain_snoc hch fun l' hl' => ?_
            rw [hl] at hl'
            cases hl'
            exact fun e => zs3 (e ▸ hs2)
          · intro hc h1 h2 he
            rw [last_snoc, List.getElem?_append_left (by omega), hz0] at he
            have := hs3 hc (by omega)
            cases he
            exact zs3 this
      refine (show dSeq _ _ _ _ _ from ?_)
      show dSeq _ _ _ [some (.own p), some (.d (.tuple [.int x, .int y, .int s, .int u, .int w])), some (I m), some (Bo c), some (I w), some (.own q), some (I (1 + i)), t7, none] (put (put st p zs) q (cs.map fun c => I c))
      have key : ∀ R : Kd, ((c = true ∧ (1 : Int) + i = m - 1 → R (.d (.list [.int l, .int cs[0]])) (put (put st p zs) q (cs.map fun c => I c))) ∧ (¬ (c = true ∧ (1 : Int) + i = m - 1) → R (.d (.list [.int l])) (put (put st p zs) q (cs.map fun c => I c)))) →
          (dIf (dAndT (dTst (dVar 3)) (dTst (dBin rEqV (dVar 6) (dBin rSubD (dVar 2) (dC (.int 1)))))) (dLstV (dCons (dBin rIxD (dVar 5) (dNeg (dC (.int 1)))) (dCons (dBin rIxD (dVar 5) (dC (.int 0))) dNil))) (dLstV (dCons (dBin rIxD (dVar 5) (dNeg (dC (.int 1)))) dNil))) [some (.own p), some (.d (.tuple [.int x, .int y, .int s, .int u, .int w])), some (I m), some (Bo c), some (I w), some (.own q), some (I (1 + i)), t7, none] (put (put st p zs) q (cs.map fun c => I c)) R := by
        intro R ⟨h1, h2⟩
        refine ⟨_, rfl, ?_⟩
        have one : ¬ (c = true ∧ (1 : Int) + i = m - 1) → (dLstV (dCons (dBin rIxD (dVar 5) (dNeg (dC (.int 1)))) dNil)) [some (.own p), some (.d (.tuple [.int x, .int y, .int s, .int u, .int w])), some (I m), some (Bo c), some (I w), some (.own q), some (I (1 + i)), t7, none] (put (put st p zs) q (cs.map fun c => I c)) R := fun h => ⟨_, rfl, _, _, put_same, l1, big_ok (by show 1 ≤ 3000; decide), h2 h⟩
        cases c with
        | false =>
          exact one (by simp)
        | true =>
          refine ⟨_, rfl, _, rfl, trivial, ?_⟩
          show if decide ((1 : Int) + i = m - 1) = true then _ else _
          by_cases hm : (1 : Int) + i = m - 1
          · rw [if_pos (decide_eq_true hm)]
            exact ⟨_, rfl, _, _, put_same, l1, _, rfl, _, _, put_same, l0, big_ok (by show 2 ≤ 3000; decide), h1 ⟨rfl, hm⟩⟩
          · rw [if_neg (by simpa using hm)]
            exact one (fun z => hm z.2)
      refine key _ ⟨fun hc => .inl ?_, fun hc => .inl ?_⟩
      · exact app [l, cs[0]] (by simp) (by simp) (by simp)
      · exact app [l] (by simp) (by simp) (fun h1 h2 => absurd ⟨h1, h2⟩ hc)
  · exact h.elim
end LB
namespace K12
open PySem PySem.Spec PyProof.Rows L2 DL LB
def topS (i : Nat) : Stmt := PySem.Challenge.pw_bentalike_k12_figures_of_anything.main.body.getD i (.Pass ⟨0, 0, 0, 0⟩)
abbrev s_is_whole : Stmt := topS 2
abbrev N_is_whole : List Str := ["value"]
theorem sc_is_whole : FnScope N_is_whole ["value"] (defScope s_is_whole) := ⟨rfl, rfl, rfl, by decide +kernel, rfl, by decide +kernel, by decide +kernel⟩
abbrev s_is_row : Stmt := topS 3
abbrev N_is_row : List Str := ["value", "low", "high"]
theorem sc_is_row : FnScope N_is_row ["value", "low", "high"] (defScope s_is_row) := ⟨rfl, rfl, rfl, by decide +kernel, rfl, by decide +kernel, by decide +kernel⟩
abbrev s_is_fraction : Stmt := topS 4
abbrev N_is_fraction : List Str := ["value"]
theorem sc_is_fraction : FnScope N_is_fraction ["value"] (defScope s_is_fraction) := ⟨rfl, rfl, rfl, by decide +kernel, rfl, by decide +kernel, by decide +kernel⟩
abbrev s_is_place : Stmt := topS 5
abbrev N_is_place : List Str := ["value"]
theorem sc_is_place : FnScope N_is_place ["value"] (defScope s_is_place) := ⟨rfl, rfl, rfl, by decide +kernel, rfl, by decide +kernel, by decide +kernel⟩
abbrev s_is_line : Stmt := topS 14
abbrev N_is_line : List Str := ["value", "least"]
theorem sc_is_line : FnScope N_is_line ["value", "least"] (defScope s_is_line) := ⟨rfl, rfl, rfl, by decide +kernel, rfl, by decide +kernel, by decide +kernel⟩
abbrev s_is_basic : Stmt := topS 13
abbrev N_is_basic : List Str := ["kind", "told"]
theorem sc_is_basic : FnScope N_is_basic ["kind", "told"] (defScope s_is_basic) := ⟨rfl, rfl, rfl, by decide +kernel, rfl, by decide +kernel, by decide +kernel⟩
abbrev s_is_figure_form : Stmt := topS 12
abbrev N_is_figure_form : List Str := ["value", "deep"]
theorem sc_is_figure_form : FnScope N_is_figure_form ["value", "deep"] (defScope s_is_figure_form) := ⟨rfl, rfl, rfl, by decide +kernel, rfl, by decide +kernel, by decide +kernel⟩
abbrev s_basics_of : Stmt := topS 15
abbrev N_basics_of : List Str := ["figure"]
theorem sc_basics_of : FnScope N_basics_of ["figure"] (defScope s_basics_of) := ⟨rfl, rfl, rfl, by decide +kernel, rfl, by decide +kernel, by decide +kernel⟩
abbrev s_lines_of_basic : Stmt := topS 16
abbrev N_lines_of_basic : List Str := ["figure", "kind", "points", "lines"]
theorem sc_lines_of_basic : FnScope N_lines_of_basic ["figure"] (defScope s_lines_of_basic) := ⟨rfl, rfl, rfl, by decide +kernel, rfl, by decide +kernel, by decide +kernel⟩
abbrev s_lines_in : Stmt := topS 17
abbrev N_lines_in : List Str := ["figure", "basic", "line"]
theorem sc_lines_in : FnScope N_lines_in ["figure"] (defScope s_lines_in) := ⟨rfl, rfl, rfl, by decide +kernel, rfl, by decide +kernel, by decide +kernel⟩
abbrev s_is_figure : Stmt := topS 19
abbrev N_is_figure : List Str := ["value"]
theorem sc_is_figure : FnScope N_is_figure ["value"] (defScope s_is_figure) := ⟨rfl, rfl, rfl, by decide +kernel, rfl, by decide +kernel, by decide +kernel⟩
abbrev s_spring : Stmt := topS 21
abbrev N_spring : List Str := ["_law_script", "_law_turn", "_law_mixed", "_law_cell", "_law_own"]
theorem sc_spring : FnScope N_spring ["_law_script", "_law_turn"] (defScope s_spring) := ⟨rfl, rfl, rfl, by decide +kernel, rfl, by decide +kernel, by decide +kernel⟩
abbrev s_draw : Stmt := topS 22
abbrev N_draw : List Str := ["_law_spring_here", "_law_many", "_law_digit", "_law_seed"]
theorem sc_draw : FnScope N_draw ["_law_spring_here", "_law_many"] (defScope s_draw) := ⟨rfl, rfl, rfl, by decide +kernel, rfl, by decide +kernel, by decide +kernel⟩
abbrev s_one_of : Stmt := topS 23
abbrev N_one_of : List Str := ["_law_spring_here", "_law_some"]
theorem sc_one_of : FnScope N_one_of ["_law_spring_here", "_law_some"] (defScope s_one_of) := ⟨rfl, rfl, rfl, by decide +kernel, rfl, by decide +kernel, by decide +kernel⟩
abbrev s_divisor : Stmt := topS 24
abbrev N_divisor : List Str := ["_law_one", "_law_two", "_law_far", "_law_rest"]
theorem sc_divisor : FnScope N_divisor ["_law_one", "_law_two"] (defScope s_divisor) := ⟨rfl, rfl, rfl, by decide +kernel, rfl, by decide +kernel, by decide +kernel⟩
abbrev s_part : Stmt := topS 25
abbrev N_part : List Str := ["_law_top", "_law_base", "_law_far"]
theorem sc_part : FnScope N_part ["_law_top", "_law_base"] (defScope s_part) := ⟨rfl, rfl, rfl, by decide +kernel, rfl, by decide +kernel, by decide +kernel⟩
abbrev s_frame : Stmt := topS 26
abbrev N_frame : List Str := ["_law_spring_here", "_law_wide_here", "_law_x", "_law_y", "_law_step", "_law_under"]
theorem sc_frame : FnScope N_frame ["_law_spring_here"] (defScope s_frame) := ⟨rfl, rfl, rfl, by decide +kernel, rfl, by decide +kernel, by decide +kernel⟩
abbrev s_grid : Stmt := topS 27
abbrev N_grid : List Str := ["_law_frame_here", "_law_i", "_law_j", "_law_n", "_law_x", "_law_y", "_law_step", "_law_under", "_law_wide_here"]
theorem sc_grid : FnScope N_grid ["_law_frame_here", "_law_i", "_law_j", "_law_n"] (defScope s_grid) := ⟨rfl, rfl, rfl, by decide +kernel, rfl, by decide +kernel, by decide +kernel⟩
abbrev s_dot : Stmt := topS 28
abbrev N_dot : List Str := ["_law_spring_here", "_law_frame_here", "_law_n", "_law_i", "_law_j"]
theorem sc_dot : FnScope N_dot ["_law_spring_here", "_law_frame_here"] (defScope s_dot) := ⟨rfl, rfl, rfl, by decide +kernel, rfl, by decide +kernel, by decide +kernel⟩
abbrev s_row : Stmt := topS 29
abbrev N_row : List Str := ["_law_spring_here", "_law_frame_here", "_law_many", "_law_is_closed", "_law_wide_here", "_law_found", "_law_turn", "_law_shut", "_law_each"]
theorem sc_row : FnScope N_row ["_law_spring_here", "_law_frame_here", "_law_many", "_law_is_closed"] (defScope s_row) := ⟨rfl, rfl, rfl, by decide +kernel, rfl, by decide +kernel, by decide +kernel⟩
abbrev s_box : Stmt := topS 30
abbrev N_box : List Str := ["_law_spring_here", "_law_frame_here", "_law_i", "_law_j", "_law_k", "_law_m", "_law_row_here"]
theorem sc_box : FnScope N_box ["_law_spring_here", "_law_frame_here"] (defScope s_box) := ⟨rfl, rfl, rfl, by decide +kernel, rfl, by decide +kernel, by decide +kernel⟩
abbrev s_pairs : Stmt := topS 31
abbrev N_pairs : List Str := ["_law_row_here", "_law_is_closed", "_law_found"]
theorem sc_pairs : FnScope N_pairs ["_law_row_here", "_law_is_closed"] (defScope s_pairs) := ⟨rfl, rfl, rfl, by decide +kernel, rfl, by decide +kernel, by decide +kernel⟩
abbrev s_leaf : Stmt := topS 32
abbrev N_leaf : List Str := ["_law_spring_here", "_law_frame_here", "_law_room", "_law_word", "_law_many"]
theorem sc_leaf : FnScope N_leaf ["_law_spring_here", "_law_frame_here", "_law_room"] (defScope s_leaf) := ⟨rfl, rfl, rfl, by decide +kernel, rfl, by decide +kernel, by decide +kernel⟩
abbrev s_figure : Stmt := topS 33
abbrev N_figure : List Str := ["_law_spring_here", "_law_frame_here", "_law_deep", "_law_room", "_law_words", "_law_word", "_law_first"]
theorem sc_figure : FnScope N_figure ["_law_spring_here", "_law_frame_here", "_law_deep", "_law_room"] (defScope s_figure) := ⟨rfl, rfl, rfl, by decide +kernel, rfl, by decide +kernel, by decide +kernel⟩
abbrev s_odd : Stmt := topS 34
abbrev N_odd : List Str := ["_law_spring_here", "_law_nil", "_law_one", "_law_two", "_law_some"]
theorem sc_odd : FnScope N_odd ["_law_spring_here"] (defScope s_odd) := ⟨rfl, rfl, rfl, by decide +kernel, rfl, by decide +kernel, by decide +kernel⟩
abbrev s_bent : Stmt := topS 35
abbrev N_bent : List Str := ["_law_spring_here", "_law_thing", "_law_at", "_law_branch"]
theorem sc_bent : FnScope N_bent ["_law_spring_here", "_law_thing"] (defScope s_bent) := ⟨rfl, rfl, rfl, by decide +kernel, rfl, by decide +kernel, by decide +kernel⟩
abbrev s_l_is_whole : Stmt := topS 36
abbrev N_l_is_whole : List Str := ["_law_thing"]
theorem sc_l_is_whole : FnScope N_l_is_whole ["_law_thing"] (defScope s_l_is_whole) := ⟨rfl, rfl, rfl, by decide +kernel, rfl, by decide +kernel, by decide +kernel⟩
abbrev s_is_lot : Stmt := topS 37
abbrev N_is_lot : List Str := ["_law_thing", "_law_low", "_law_high"]
theorem sc_is_lot : FnScope N_is_lot ["_law_thing", "_law_low", "_law_high"] (defScope s_is_lot) := ⟨rfl, rfl, rfl, by decide +kernel, rfl, by decide +kernel, by decide +kernel⟩
abbrev s_l_is_fraction : Stmt := topS 38
abbrev N_l_is_fraction : List Str := ["_law_thing", "_law_each"]
theorem sc_l_is_fraction : FnScope N_l_is_fraction ["_law_thing"] (defScope s_l_is_fraction) := ⟨rfl, rfl, rfl, by decide +kernel, rfl, by decide +kernel, by decide +kernel⟩
abbrev s_is_told : Stmt := topS 39
abbrev N_is_told : List Str := ["_law_thing", "_law_each"]
theorem sc_is_told : FnScope N_is_told ["_law_thing"] (defScope s_is_told) := ⟨rfl, rfl, rfl, by decide +kernel, rfl, by decide +kernel, by decide +kernel⟩
abbrev s_shape : Stmt := topS 40
abbrev N_shape : List Str := ["_law_thing", "_law_word", "_law_rest", "_law_some", "_law_row_here", "_law_low", "_law_pairs_here", "_law_each"]
theorem sc_shape : FnScope N_shape ["_law_thing"] (defScope s_shape) := ⟨rfl, rfl, rfl, by decide +kernel, rfl, by decide +kernel, by decide +kernel⟩
abbrev s_wrapped : Stmt := topS 41
abbrev N_wrapped : List Str := ["_law_spring_here", "_law_frame_here", "_law_found", "_law_turn", "_law_word", "_law_leaf_here"]
theorem sc_wrapped : FnScope N_wrapped ["_law_spring_here", "_law_frame_here"] (defScope s_wrapped) := ⟨rfl, rfl, rfl, by decide +kernel, rfl, by decide +kernel, by decide +kernel⟩
abbrev s_wide : Stmt := topS 42
abbrev N_wide : List Str := ["_law_spring_here", "_law_frame_here", "_law_first", "_law_second", "_law_third", "_law_word"]
theorem sc_wide : FnScope N_wide ["_law_spring_here", "_law_frame_here"] (defScope s_wide) := ⟨rfl, rfl, rfl, by decide +kernel, rfl, by decide +kernel, by decide +kernel⟩
abbrev s_line : Stmt := topS 43
abbrev N_line : List Str := ["_law_spring_here", "_law_frame_here", "_law_many"]
theorem sc_line : FnScope N_line ["_law_spring_here", "_law_frame_here"] (defScope s_line) := ⟨rfl, rfl, rfl, by decide +kernel, rfl, by decide +kernel, by decide +kernel⟩
abbrev s_is_due : Stmt := topS 44
abbrev N_is_due : List Str := ["_law_thing", "_law_deep", "_law_sides"]
theorem sc_is_due : FnScope N_is_due ["_law_thing"] (defScope s_is_due) := ⟨rfl, rfl, rfl, by decide +kernel, rfl, by decide +kernel, by decide +kernel⟩
abbrev s_right : Stmt := topS 45
abbrev N_right : List Str := ["_law_spring_here", "_law_frame_here", "_law_some", "_law_due", "_law_each"]
theorem sc_right : FnScope N_right ["_law_spring_here"] (defScope s_right) := ⟨rfl, rfl, rfl, by decide +kernel, rfl, by decide +kernel, by decide +kernel⟩
abbrev s_law : Stmt := topS 46
abbrev N_law : List Str := ["_law_script", "_law_turn"]
theorem sc_law : FnScope N_law ["_law_script"] (defScope s_law) := ⟨rfl, rfl, rfl, by decide +kernel, rfl, by decide +kernel, by decide +kernel⟩
variable [Tabs]
structure Tx (K : PySem.W.Frag) (mg : Str → Option Value) (base : Heap) : Prop where
  n_abs : mg "abs" = none
  n_all : mg "all" = none
  n_bool : mg "bool" = none
  n_divmod : mg "divmod" = none
  n_int : mg "int" = none
  n_isinstance : mg "isinstance" = none
  n_len : mg "len" = none
  n_list : mg "list" = none
  n_max : mg "max" = none
  n_min : mg "min" = none
  n_range : mg "range" = none
  n_repr : mg "repr" = none
  n_str : mg "str" = none
  n_sum : mg "sum" = none
  n_tuple : mg "tuple" = none
  n_zip : mg "zip" = none
  m_gcd : mg "gcd" = some (.builtin "math.gcd")
  g_MOST_ON_LINE : ∃ t, mg "MOST_ON_LINE" = some (.int 12 t)
  g_MOST_SEGMENTS : ∃ t, mg "MOST_SEGMENTS" = some (.int 24 t)
  g_NEARBY : GTup K mg "NEARBY" ["closure", "inner", "rim"]
  g_PAIRED : GTup K mg "PAIRED" ["both", "either", "less"]
  h_is_whole : Has K mg "is_whole" s_is_whole
  h_is_row : Has K mg "is_row" s_is_row
  h_is_fraction : Has K mg "is_fraction" s_is_fraction
  h_is_place : Has K mg "is_place" s_is_place
  h_is_line : HasT K mg base "is_line" s_is_line
  h_is_basic : Has K mg "is_basic" s_is_basic
  h_is_figure_form : HasD K mg "is_figure_form" s_is_figure_form [V.int 6]
  h_basics_of : Has K mg "basics_of" s_basics_of
  h_lines_of_basic : Has K mg "lines_of_basic" s_lines_of_basic
  h_lines_in : Has K mg "lines_in" s_lines_in
  h_is_figure : Has K mg "is_figure" s_is_figure
  h_spring : Has K mg "_law_spring" s_spring
  h_draw : Has K mg "_law_draw" s_draw
  h_one_of : Has K mg "_law_one_of" s_one_of
  h_divisor : Has K mg "_law_divisor" s_divisor
  h_part : Has K mg "_law_part" s_part
  h_frame : Has K mg "_law_frame" s_frame
  h_grid : Has K mg "_law_grid" s_grid
  h_dot : Has K mg "_law_dot" s_dot
  h_row : Has K mg "_law_row" s_row
  h_box : Has K mg "_law_box" s_box
  h_pairs : Has K mg "_law_pairs" s_pairs
  h_leaf : Has K mg "_law_leaf" s_leaf
  h_figure : Has K mg "_law_figure" s_figure
  h_odd : Has K mg "_law_odd" s_odd
  h_bent : Has K mg "_law_bent" s_bent
  h_l_is_whole : Has K mg "_law_is_whole" s_l_is_whole
  h_is_lot : Has K mg "_law_is_lot" s_is_lot
  h_l_is_fraction : Has K mg "_law_is_fraction" s_l_is_fraction
  h_is_told : Has K mg "_law_is_told" s_is_told
  h_shape : Has K mg "_law_shape" s_shape
  h_wrapped : Has K mg "_law_wrapped" s_wrapped
  h_wide : Has K mg "_law_wide" s_wide
  h_line : Has K mg "_law_line" s_line
  h_is_due : Has K mg "_law_is_due" s_is_due
  h_right : Has K mg "_law_right" s_right
  h_law : Has K mg "law" s_law
end K12
namespace K12
open PySem PySem.Spec PyProof.Rows L2 DL LB
/-- tuples at most n within one another -/
def Nst : Nat → PyData → Prop
  | 0, x => ∀ xs, x ≠ .tuple xs
  | n + 1, x => match x with
    | .tuple xs => ∀ y ∈ xs, Nst n y
    | _ => True
theorem nst_tup {n : Nat} {xs : List PyData} (h : Nst n (.tuple xs)) : ∃ m, n = m + 1 ∧ ∀ y ∈ xs, Nst m y := by
  cases n with
  | zero => exact absurd rfl (h xs)
  | succ m => exact ⟨m, rfl, h⟩
theorem Nst.up : ∀ {n : Nat} {x : PyData}, Nst n x → Nst (n + 1) x := by
  intro n
  induction n with
  | zero =>
    intro x h
    cases x with
    | tuple xs => exact absurd rfl (h xs)
    | _ => trivial
  | succ n ih =>
    intro x h
    cases x with
    | tuple xs => exact fun y hy => ih (h y hy)
    | _ => trivial
theorem Nst.mono {n m : Nat} {x : PyData} (h : Nst n x) (hm : n ≤ m) : Nst m x := by
  induction hm with
  | refl => exact h
  | step _ ih => exact ih.up
def pairW : List Str := ["both", "either", "less"]
def nearW : List Str := ["closure", "inner", "rim"]
/-! ### the program's own look -/
def unl : List PyData → Bool
  | a :: b :: r => !PyData.eqv a b && unl (b :: r)
  | _ => true
def isLn (l : Nat) : PyData → Bool
  | .tuple ps => decide (l ≤ ps.length) && decide (ps.length ≤ 12) && ps.all isPl && unl ps
  | _ => false
def ends : PyData → Bool
  | .tuple (a :: r) => !PyData.eqv a ((a :: r).getLast (by simp))
  | _ => false
def isBas (k : Str) (x : PyData) : Bool := if k = "spot" then isPl x else if k = "path" then isLn 2 x else decide (k = "area") && (isLn 3 x && ends x)
def figF : Nat → PyData → Bool
  | 0, _ => false
  | n + 1, x => match x with
    | .tuple (.str w :: rest) =>
      if w ∈ pairW then (match rest with
        | [y, z] => figF n y && figF n z
        | _ => false)
      else (match rest with
        | [y] => if w ∈ nearW then figF n y else isBas w y
        | _ => false)
    | _ => false
/-- the basic figures in a figure -/
def basF : Nat → PyData → List PyData
  | 0, _ => []
  | n + 1, x => match x with
    | .tuple (.str w :: rest) =>
      if w ∈ pairW then (match rest with
        | [y, z] => basF n y ++ basF n z
        | _ => [])
      else if w ∈ nearW then (match rest with
        | [y] => basF n y
        | _ => [])
      else [x]
    | _ => []
def lnB : PyData → List PyData
  | .tuple [.str w, .tuple ps] => if w = "spot" then [] else if w = "area" then zipD ps (ps.drop 1) ++ [.tuple [ps.getLastD .none, ps.headD .none]] else zipD ps (ps.drop 1)
  | _ => []
def linF (x : PyData) : List PyData := (basF 6 x).flatMap lnB
/-! ### the law's own look -/
def pairsF (c : Bool) (ps : List PyData) : List (PyData × PyData) := ps.zip (ps.drop 1) ++ if c = true then [(ps.getLastD .none, ps.headD .none)] else []
def lineS (c : Bool) (x : PyData) : Int × Int := match x with
  | .tuple ps => if (decide ((if c then 3 else 2) ≤ ps.length) && decide (ps.length ≤ 12) && ps.all isPl) = true then (if (pairsF c ps).all (fun p => !PyData.eqv p.1 p.2) = true then (1, ((pairsF c ps).length : Int)) else (0, 0)) else (0, 0)
  | _ => (0, 0)
def shapeF : Nat → PyData → Int × Int
  | 0, _ => (0, 0)
  | n + 1, x => match x with
    | .tuple (.str w :: rest) =>
      if w ∈ pairW then (match rest with
        | [y, z] => if shapeF n y = (0, 0) ∨ shapeF n z = (0, 0) then (0, 0) else (1 + (if (shapeF n y).1 ≤ (shapeF n z).1 then (shapeF n z).1 else (shapeF n y).1), (shapeF n y).2 + (shapeF n z).2)
        | _ => (0, 0))
      else if w ∈ nearW then (match rest with
        | [y] => if shapeF n y = (0, 0) then (0, 0) else (1 + (shapeF n y).1, (shapeF n y).2)
        | _ => (0, 0))
      else (match rest with
        | [y] => if w = "spot" then (if isPl y then (1, 0) else (0, 0)) else if w = "path" then lineS false y else if w = "area" then lineS true y else (0, 0)
        | _ => (0, 0))
    | _ => (0, 0)
/-! ### what the law draws -/
def ptsOk (ps : List Pt) : Prop := (∀ q ∈ ps, q.G) ∧ ps.length ≤ 20
inductive Fg : Nat → PyData → Prop
  | spot {n : Nat} {q : Pt} (h : q.G) : Fg (n + 1) (.tuple [.str "spot", q.py])
  | line {n : Nat} {w : Str} {ps : List Pt} (h : w = "path" ∨ w = "area") (hp : ptsOk ps) : Fg (n + 1) (.tuple [.str w, .tuple (ps.map Pt.py)])
  | one {n : Nat} {w : Str} {x : PyData} (h : w ∈ nearW) (a : Fg n x) : Fg (n + 1) (.tuple [.str w, x])
  | two {n : Nat} {w : Str} {x y : PyData} (h : w ∈ pairW) (a : Fg n x) (b : Fg n y) : Fg (n + 1) (.tuple [.str w, x, y])
/-! ### what the defs promise -/
def sp_is_line : SpD := fun ds st Q => ∃ (x : PyData) (l : Nat), ds = [.d x, I l] ∧ Q (Bo (isLn l x)) st
def sp_is_basic : SpD := fun ds st Q => ∃ (w : Str) (x : PyData), ds = [.d (.str w), .d x] ∧ Q (Bo (isBas w x)) st
def sp_is_figure_formK (n : Nat) : SpD := fun ds st Q => ∃ x, ds = [.d x, I n] ∧ Q (Bo (figF n x)) st
def sp_is_figure_form : SpD := sp_is_figure_formK 6
def sp_basics_ofK (n : Nat) : SpD := fun ds st Q => ∃ x, ds = [.d x] ∧ n ≤ 6 ∧ figF n x = true ∧ Q (.d (.tuple (basF n x))) st
def sp_basics_of : SpD := sp_basics_ofK 6
def sp_lines_of_basic : SpD := fun ds st Q => ∃ (w : Str) (x : PyData), ds = [.d (.tuple [.str w, x])] ∧ isBas w x = true ∧ Q (.d (.tuple (lnB (.tuple [.str w, x])))) st
def sp_lines_in : SpD := fun ds st Q => ∃ x, ds = [.d x] ∧ figF 6 x = true ∧ Q (.d (.tuple (linF x))) st
def figB (x : PyData) : Bool := figF 6 x && decide ((linF x).length ≤ 24)
def sp_is_figure : SpD := fun ds st Q => ∃ x, ds = [.d x] ∧ Q (Bo (figB x)) st
def sp_box : SpD := fun ds st Q => match ds with
  | [.own p, .d (.tuple [.int x, .int y, .int s, .int u, .int w])] => FrOk x y s u w ∧ spS 5 (fun d => ∃ ps, d = .d (.tuple (ps.map Pt.py)) ∧ ptsOk ps) p st Q
  | _ => False
def sp_pairs : SpD := fun ds st Q => ∃ (ps : List PyData) (c : Bool), ds = [.d (.tuple ps), Bo c] ∧ ps.length ≤ 1000 ∧ 2 ≤ ps.length ∧ ∀ p, st p = none → Q (.own p) (put st p ((pairsF c ps).map fun z => .d (.tuple [z.1, z.2])))
/-- a leaf, while room is used up -/
def spR (c : Nat) (post : D → Prop) (p r : Addr) (st : Sto) (Q : Kd) : Prop := ∃ n xs m, st p = some xs ∧ SprL xs n ∧ n + c < 2 ^ 40 ∧ p ≠ r ∧ st r = some [I m] ∧ 0 ≤ m ∧ m ≤ 10 ∧ ∀ d xs' m', post d → SprL xs' (n + c) → 0 ≤ m' → m' ≤ 10 → Q d (put (put st p xs') r [I m'])
def sp_leaf : SpD := fun ds st Q => match ds with
  | [.own p, .d (.tuple [.int x, .int y, .int s, .int u, .int w]), .own r] => FrOk x y s u w ∧ spR 30 (fun d => ∃ y, d = .d y ∧ Fg 1 y) p r st Q
  | _ => False
def sp_figureK (n : Nat) : SpD := fun ds st Q => ∃ p x y s u w j r, ds = [.own p, .d (frP x y s u w), I ((j + 1 : Nat) : Int), .own r] ∧ j ≤ n ∧ FrOk x y s u w ∧ spR (40 * 2 ^ (n + 1) - 1) (fun d => ∃ y, d = .d y ∧ Fg (n + 1) y) p r st Q
def sp_figure : SpD := sp_figureK 3
def sp_odd : SpD := fun ds st Q => match ds with
  | [.own p] => spS 1 (fun d => ∃ x, d = .d x ∧ Nst 5 x) p st Q
  | _ => False
def sp_bentK (k : Nat) : SpD := fun ds st Q => match ds with
  | [.own p, .d x] => Plain k x ∧ Nst k x ∧ spS (2 * k + 2) (fun d => ∃ x, d = .d x ∧ Nst (k + 5) x) p st Q
  | _ => False
def sp_bent : SpD := sp_bentK 12
def sp_shapeK (n : Nat) : SpD := fun ds st Q => ∃ x, ds = [.d x] ∧ Nst n x ∧ Q (.d (.tuple [.int (shapeF n x).1, .int (shapeF n x).2])) st
def sp_shape : SpD := sp_shapeK 20
def sp_wrapped : SpD := fun ds st Q => match ds with
  | [.own p, .d (.tuple [.int x, .int y, .int s, .int u, .int w])] => FrOk x y s u w ∧ spS 400 (fun d => ∃ y, d = .d y ∧ Fg 8 y) p st Q
  | _ => False
def sp_wide : SpD := fun ds st Q => match ds with
  | [.own p, .d (.tuple [.int x, .int y, .int s, .int u, .int w])] => FrOk x y s u w ∧ spS 100 (fun d => ∃ y, d = .d y ∧ Fg 4 y) p st Q
  | _ => False
def sp_line : SpD := fun ds st Q => match ds with
  | [.own p, .d (.tuple [.int x, .int y, .int s, .int u, .int w])] => FrOk x y s u w ∧ spS 30 (fun d => ∃ y, d = .d y ∧ Fg 1 y) p st Q
  | _ => False
def sp_is_due : SpD := fun ds st Q => ∃ x, ds = [.d x] ∧ Nst 20 x ∧ Q (Bo (figB x)) st
def sp_right : SpD := fun ds st Q => ∃ p, ds = [.own p] ∧ (∃ xs, st p = some xs ∧ SprL xs 0) ∧ ∀ st', Q (Bo true) st'
def sp_law : SpD := fun ds st Q => match ds with
  | [.scr ns] => ns.length ≤ 63 ∧ ∀ st', Q (Bo true) st'
  | _ => False
end K12
namespace K12
open PySem PySem.Spec PyProof.Rows L2 DL LB
abbrev b_spring : TSd := LB.b_spring 722251
def b_is_line_1 : TSd := (dIfS (dOrT (dNotT (dTst (dFn0 sp_is_row (dCons (dVar 0) (dCons (dVar 1) (dCons (dC (.int 12)) dNil)))))) (dNotT (dTst (dAllG (dIter (dVar 0)) [] (dFn0 sp_is_place (dCons (dVar 0) dNil)))))) (dRet (dC (.bool false))) dNext)
def b_is_line_2 : TSd := (dRet (dAllG (dRng1 (dCons (dBin rSubD (dCall cLen (dCons (dVar 0) dNil)) (dC (.int 1))) dNil)) [("value", 0)] (dBin rNeV (dBin rIxD (dVar 1) (dVar 0)) (dBin rIxD (dVar 1) (dBin rAddD (dVar 0) (dC (.int 1)))))))
def b_is_line : TSd := (dSeq b_is_line_1 b_is_line_2)
def b_is_basic_1 : TSd := (dIfS (dTst (dBin rEqV (dVar 0) (dC (.str "spot")))) (dRet (dFn0 sp_is_place (dCons (dVar 1) dNil))) dNext)
def b_is_basic_2 : TSd := (dIfS (dTst (dBin rEqV (dVar 0) (dC (.str "path")))) (dRet (dFn0 sp_is_line (dCons (dVar 1) (dCons (dC (.int 2)) dNil)))) dNext)
def b_is_basic_3 : TSd := (dRet (dAnd (dBin rEqV (dVar 0) (dC (.str "area"))) (dAnd (dFn0 sp_is_line (dCons (dVar 1) (dCons (dC (.int 3)) dNil))) (dBin rNeV (dBin rIxD (dVar 1) (dC (.int 0))) (dBin rIxD (dVar 1) (dNeg (dC (.int 1))))))))
def b_is_basic : TSd := (dSeq b_is_basic_1 (dSeq b_is_basic_2 b_is_basic_3))
def b_is_figure_form_1 (sp_self : SpD) : TSd := (dIfS (dOrT (dTst (dBin rEqV (dVar 1) (dC (.int 0)))) (dOrT (dNotT (dTst (dFn0 sp_is_row (dCons (dVar 0) (dCons (dC (.int 2)) (dCons (dC (.int 3)) dNil)))))) (dNotT (dTst (dIs "str" (dBin rIxD (dVar 0) (dC (.int 0)))))))) (dRet (dC (.bool false))) dNext)
def b_is_figure_form_2 (sp_self : SpD) : TSd := (dIfS (dTst (dBin (rInV false) (dBin rIxD (dVar 0) (dC (.int 0))) (dC (.tuple [.str "both", .str "either", .str "less"])))) (dRet (dAnd (dBin rEqV (dCall cLen (dCons (dVar 0) dNil)) (dC (.int 3))) (dAnd (dFn0 sp_self (dCons (dBin rIxD (dVar 0) (dC (.int 1))) (dCons (dBin rSubD (dVar 1) (dC (.int 1))) dNil))) (dFn0 sp_self (dCons (dBin rIxD (dVar 0) (dC (.int 2))) (dCons (dBin rSubD (dVar 1) (dC (.int 1))) dNil)))))) dNext)
def b_is_figure_form_3 (sp_self : SpD) : TSd := (dIfS (dTst (dBin rNeV (dCall cLen (dCons (dVar 0) dNil)) (dC (.int 2)))) (dRet (dC (.bool false))) dNext)
def b_is_figure_form_4 (sp_self : SpD) : TSd := (dIfS (dTst (dBin (rInV false) (dBin rIxD (dVar 0) (dC (.int 0))) (dC (.tuple [.str "closure", .str "inner", .str "rim"])))) (dRet (dFn0 sp_self (dCons (dBin rIxD (dVar 0) (dC (.int 1))) (dCons (dBin rSubD (dVar 1) (dC (.int 1))) dNil)))) dNext)
def b_is_figure_form_5 (sp_self : SpD) : TSd := (dRet (dFn0 sp_is_basic (dCons (dBin rIxD (dVar 0) (dC (.int 0))) (dCons (dBin rIxD (dVar 0) (dC (.int 1))) dNil))))
def b_is_figure_form (sp_self : SpD) : TSd := (dSeq (b_is_figure_form_1 sp_self) (dSeq (b_is_figure_form_2 sp_self) (dSeq (b_is_figure_form_3 sp_self) (dSeq (b_is_figure_form_4 sp_self) (b_is_figure_form_5 sp_self)))))
def b_basics_of_1 (sp_self : SpD) : TSd := (dIfS (dTst (dBin (rInV false) (dBin rIxD (dVar 0) (dC (.int 0))) (dC (.tuple [.str "both", .str "either", .str "less"])))) (dRet (dBin rAddD (dFn0 sp_self (dCons (dBin rIxD (dVar 0) (dC (.int 1))) dNil)) (dFn0 sp_self (dCons (dBin rIxD (dVar 0) (dC (.int 2))) dNil)))) dNext)
def b_basics_of_2 (sp_self : SpD) : TSd := (dIfS (dTst (dBin (rInV false) (dBin rIxD (dVar 0) (dC (.int 0))) (dC (.tuple [.str "closure", .str "inner", .str "rim"])))) (dRet (dFn0 sp_self (dCons (dBin rIxD (dVar 0) (dC (.int 1))) dNil))) dNext)
def b_basics_of_3 (sp_self : SpD) : TSd := (dRet (dTup (dCons (dVar 0) dNil)))
def b_basics_of (sp_self : SpD) : TSd := (dSeq (b_basics_of_1 sp_self) (dSeq (b_basics_of_2 sp_self) (b_basics_of_3 sp_self)))
def b_lines_of_basic_1 : TSd := (dAsg (dVar 0) (hTup 2 (hCons (hName 1) (hCons (hName 2) hNil))))
def b_lines_of_basic_2 : TSd := (dIfS (dTst (dBin rEqV (dVar 1) (dC (.str "spot")))) (dRet (dTup dNil)) dNext)
def b_lines_of_basic_3 : TSd := (dAsg (dTupZip (dCons (dVar 2) (dCons (dSl (dVar 2) (dPart (dC (.int 1))) dNoP) dNil))) (hName 3))
def b_lines_of_basic_4 : TSd := (dRet (dIf (dTst (dBin rEqV (dVar 1) (dC (.str "area")))) (dBin rAddD (dVar 3) (dTup (dCons (dTup (dCons (dBin rIxD (dVar 2) (dNeg (dC (.int 1)))) (dCons (dBin rIxD (dVar 2) (dC (.int 0))) dNil))) dNil))) (dVar 3)))
def b_lines_of_basic : TSd := (dSeq b_lines_of_basic_1 (dSeq b_lines_of_basic_2 (dSeq b_lines_of_basic_3 b_lines_of_basic_4)))
def b_lines_in : TSd := (dRet (dCall cTuple (dCons (dLc2 mkV (dIter (dFn0 sp_basics_of (dCons (dVar 0) dNil))) 1 (dIter (dFn0 sp_lines_of_basic (dCons (dVar 1) dNil))) 2 (dVar 2)) dNil)))
def b_is_figure : TSd := (dRet (dAnd (dFn sp_is_figure_form [.d (.int 6)] (dCons (dVar 0) dNil)) (dBin rLeD (dCall cLen (dCons (dFn0 sp_lines_in (dCons (dVar 0) dNil)) dNil)) (dC (.int 24)))))
def b_box_1 : TSd := (dPar 2 3 (dCons (dFn0 sp_draw (dCons (dVar 0) (dCons (dBin rSubD (dBin rIxD (dVar 1) (dC (.int 4))) (dC (.int 1))) dNil))) (dCons (dFn0 sp_draw (dCons (dVar 0) (dCons (dBin rSubD (dBin rIxD (dVar 1) (dC (.int 4))) (dC (.int 1))) dNil))) dNil)))
def b_box_2 : TSd := (dPar 4 5 (dCons (dBin rAddD (dBin rAddD (dVar 2) (dC (.int 1))) (dFn0 sp_draw (dCons (dVar 0) (dCons (dBin rSubD (dBin rSubD (dBin rIxD (dVar 1) (dC (.int 4))) (dC (.int 1))) (dVar 2)) dNil)))) (dCons (dBin rAddD (dBin rAddD (dVar 3) (dC (.int 1))) (dFn0 sp_draw (dCons (dVar 0) (dCons (dBin rSubD (dBin rSubD (dBin rIxD (dVar 1) (dC (.int 4))) (dC (.int 1))) (dVar 3)) dNil)))) dNil)))
def b_box_3 : TSd := (dAsg (dLstV (dCons (dFn0 sp_grid (dCons (dVar 1) (dCons (dVar 2) (dCons (dVar 3) (dCons (dC (.int 1)) dNil))))) (dCons (dFn0 sp_grid (dCons (dVar 1) (dCons (dVar 4) (dCons (dVar 3) (dCons (dC (.int 1)) dNil))))) (dCons (dFn0 sp_grid (dCons (dVar 1) (dCons (dVar 4) (dCons (dVar 5) (dCons (dC (.int 1)) dNil))))) (dCons (dFn0 sp_grid (dCons (dVar 1) (dCons (dVar 2) (dCons (dVar 5) (dCons (dC (.int 1)) dNil))))) dNil))))) (hName 6))
def b_box_4 : TSd := (dRet (dCall cTuple (dCons (dIf (dTst (dBin rGtD (dFn0 sp_draw (dCons (dVar 0) (dCons (dC (.int 3)) dNil))) (dC (.int 0)))) (dVar 6) (dRev (dVar 6))) dNil)))
def b_box : TSd := (dSeq b_box_1 (dSeq b_box_2 (dSeq b_box_3 b_box_4)))
def b_pairs_1 : TSd := (dAsg (dLstZip (dCons (dVar 0) (dCons (dSl (dVar 0) (dPart (dC (.int 1))) dNoP) dNil))) (hName 2))
def b_pairs_2 : TSd := (dIfS (dTst (dVar 1)) (dDrop (dApp (dVar 2) (dTup (dCons (dBin rIxD (dVar 0) (dNeg (dC (.int 1)))) (dCons (dBin rIxD (dVar 0) (dC (.int 0))) dNil))))) dNext)
def b_pairs_3 : TSd := (dRet (dVar 2))
def b_pairs : TSd := (dSeq b_pairs_1 (dSeq b_pairs_2 b_pairs_3))
def b_leaf_1 : TSd := (dAsg (dFn0 sp_one_of (dCons (dVar 0) (dCons (dTup (dCons (dC (.str "spot")) (dCons (dC (.str "path")) (dCons (dC (.str "area")) (dCons (dC (.str "area")) (dCons (dC (.str "area")) dNil)))))) dNil))) (hName 3))
def b_leaf_2 : TSd := (dIfS (dAndT (dTst (dBin rEqV (dVar 3) (dC (.str "area")))) (dTst (dBin rGtD (dBin rIxD (dVar 2) (dC (.int 0))) (dC (.int 2))))) (dSeq (dAsg (dBin rAddD (dC (.int 3)) (dFn0 sp_draw (dCons (dVar 0) (dCons (dCall cMin (dCons (dC (.int 3)) (dCons (dBin rSubD (dBin rIxD (dVar 2) (dC (.int 0))) (dC (.int 2))) dNil))) dNil)))) (hName 4)) (dSeq (dAsg (dBin rSubD (dBin rIxD (dVar 2) (dC (.int 0))) (dVar 4)) (hSub (dVar 2) (dC (.int 0)))) (dSeq (dIfS (dAndT (dTst (dBin rEqV (dVar 4) (dC (.int 4)))) (dTst (dBin rGtD (dFn0 sp_draw (dCons (dVar 0) (dCons (dC (.int 3)) dNil))) (dC (.int 0))))) (dRet (dTup (dCons (dVar 3) (dCons (dFn0 sp_box (dCons (dVar 0) (dCons (dVar 1) dNil))) dNil)))) dNext) (dRet (dTup (dCons (dVar 3) (dCons (dFn0 sp_row (dCons (dVar 0) (dCons (dVar 1) (dCons (dVar 4) (dCons (dC (.bool true)) dNil))))) dNil))))))) dNext)
def b_leaf_3 : TSd := (dIfS (dAndT (dTst (dBin rNeV (dVar 3) (dC (.str "spot")))) (dTst (dBin rGtD (dBin rIxD (dVar 2) (dC (.int 0))) (dC (.int 0))))) (dSeq (dAsg (dBin rAddD (dC (.int 2)) (dFn0 sp_draw (dCons (dVar 0) (dCons (dCall cMin (dCons (dC (.int 3)) (dCons (dBin rIxD (dVar 2) (dC (.int 0))) dNil))) dNil)))) (hName 4)) (dSeq (dAsg (dBin rAddD (dBin rSubD (dBin rIxD (dVar 2) (dC (.int 0))) (dVar 4)) (dC (.int 1))) (hSub (dVar 2) (dC (.int 0)))) (dRet (dTup (dCons (dC (.str "path")) (dCons (dFn0 sp_row (dCons (dVar 0) (dCons (dVar 1) (dCons (dVar 4) (dCons (dC (.bool false)) dNil))))) dNil)))))) dNext)
def b_leaf_4 : TSd := (dRet (dTup (dCons (dC (.str "spot")) (dCons (dFn0 sp_dot (dCons (dVar 0) (dCons (dVar 1) dNil))) dNil))))
def b_leaf : TSd := (dSeq b_leaf_1 (dSeq b_leaf_2 (dSeq b_leaf_3 b_leaf_4)))
def b_figure_1 (sp_self : SpD) : TSd := (dAsg (dTup (dCons (dC (.str "leaf")) (dCons (dC (.str "leaf")) (dCons (dC (.str "both")) (dCons (dC (.str "either")) (dCons (dC (.str "less")) (dCons (dC (.str "closure")) (dCons (dC (.str "inner")) (dCons (dC (.str "rim")) dNil))))))))) (hName 4))
def b_figure_2 (sp_self : SpD) : TSd := (dAsg (dIf (dTst (dBin rGtD (dVar 2) (dC (.int 1)))) (dFn0 sp_one_of (dCons (dVar 0) (dCons (dVar 4) dNil))) (dC (.str "leaf"))) (hName 5))
def b_figure_3 (sp_self : SpD) : TSd := (dIfS (dTst (dBin rEqV (dVar 5) (dC (.str "leaf")))) (dRet (dFn0 sp_leaf (dCons (dVar 0) (dCons (dVar 1) (dCons (dVar 3) dNil))))) dNext)
def b_figure_4 (sp_self : SpD) : TSd := (dAsg (dFn0 sp_self (dCons (dVar 0) (dCons (dVar 1) (dCons (dBin rSubD (dVar 2) (dC (.int 1))) (dCons (dVar 3) dNil))))) (hName 6))
def b_figure_5 (sp_self : SpD) : TSd := (dIfS (dTst (dBin (rInV false) (dVar 5) (dTup (dCons (dC (.str "closure")) (dCons (dC (.str "inner")) (dCons (dC (.str "rim")) dNil)))))) (dRet (dTup (dCons (dVar 5) (dCons (dVar 6) dNil)))) dNext)
def b_figure_6 (sp_self : SpD) : TSd := (dRet (dTup (dCons (dVar 5) (dCons (dVar 6) (dCons (dFn0 sp_self (dCons (dVar 0) (dCons (dVar 1) (dCons (dBin rSubD (dVar 2) (dC (.int 1))) (dCons (dVar 3) dNil))))) dNil)))))
def b_figure (sp_self : SpD) : TSd := (dSeq (b_figure_1 sp_self) (dSeq (b_figure_2 sp_self) (dSeq (b_figure_3 sp_self) (dSeq (b_figure_4 sp_self) (dSeq (b_figure_5 sp_self) (b_figure_6 sp_self))))))
def b_odd_1 : TSd := (dAsg (dTup (dCons (dTup (dCons (dTup (dCons (dC (.int 0)) (dCons (dC (.int 1)) dNil))) (dCons (dTup (dCons (dC (.int 0)) (dCons (dC (.int 1)) dNil))) dNil))) (dCons (dTup (dCons (dTup (dCons (dC (.int 1)) (dCons (dC (.int 1)) dNil))) (dCons (dTup (dCons (dC (.int 0)) (dCons (dC (.int 1)) dNil))) dNil))) (dCons (dTup (dCons (dTup (dCons (dNeg (dC (.int 3))) (dCons (dC (.int 2)) dNil))) (dCons (dTup (dCons (dC (.int 5)) (dCons (dC (.int 7)) dNil))) dNil))) dNil)))) (hTup 3 (hCons (hName 1) (hCons (hName 2) (hCons (hName 3) hNil)))))
def b_odd_2 : TSd := (dAsg (dLstV (dCons (dC .none) (dCons (dC (.bool true)) (dCons (dC (.bool false)) (dCons (dC (.int 0)) (dCons (dC (.int 1)) (dCons (dNeg (dC (.int 1))) (dCons (dBin rPowD (dC (.int 10)) (dC (.int 25))) (dCons (dC (.str "")) (dCons (dC (.str "A")) (dCons (dC (.str "E")) (dCons (dC (.str "a")) (dCons (dC (.str "spot")) (dCons (dC (.str "vertex")) (dCons (dC (.str "face")) (dCons (dTup dNil) (dCons (dTup (dCons (dC (.int 0)) dNil)) (dCons (dTup (dCons (dC (.int 0)) (dCons (dC (.int 1)) dNil))) (dCons (dTup (dCons (dC (.int 1)) (dCons (dC (.int 1)) dNil))) (dCons (dTup (dCons (dC (.int 2)) (dCons (dC (.int 2)) dNil))) (dCons (dTup (dCons (dC (.int 0)) (dCons (dC (.int 3)) dNil))) (dCons (dTup (dCons (dC (.int 0)) (dCons (dC (.int 0)) dNil))) (dCons (dTup (dCons (dC (.int 1)) (dCons (dC (.int 0)) dNil))) (dCons (dTup (dCons (dC (.int 3)) (dCons (dNeg (dC (.int 2))) dNil))) (dCons (dTup (dCons (dC (.bool true)) (dCons (dC (.int 1)) dNil))) (dCons (dTup (dCons (dC (.int 0)) (dCons (dC (.bool true)) dNil))) (dCons (dTup (dCons (dC (.str "0")) (dCons (dC (.int 1)) dNil))) (dCons (dTup (dCons (dC .none) (dCons (dC (.int 1)) dNil))) (dCons (dVar 1) (dCons (dVar 2) (dCons (dVar 3) (dCons (dTup (dCons (dVar 1) (dCons (dVar 2) dNil))) (dCons (dTup (dCons (dVar 3) (dCons (dVar 1) dNil))) (dCons (dTup (dCons (dVar 1) (dCons (dVar 1) dNil))) (dCons (dTup (dCons (dVar 1) (dCons (dVar 2) (dCons (dVar 3) dNil)))) (dCons (dTup (dCons (dVar 2) (dCons (dVar 3) (dCons (dVar 2) dNil)))) (dCons (dTup (dCons (dTup (dCons (dC (.int 0)) (dCons (dC (.int 1)) dNil))) dNil)) (dCons (dTup (dCons (dTup (dCons (dC (.int 0)) (dCons (dC (.int 1)) dNil))) (dCons (dTup (dCons (dC (.int 0)) (dCons (dC (.int 2)) dNil))) dNil))) (dCons (dTup (dCons (dTup (dCons (dC (.int 0)) (dCons (dC (.int 1)) dNil))) (dCons (dTup (dCons (dC (.int 1)) (dCons (dC (.int 1)) dNil))) (dCons (dTup (dCons (dC (.int 0)) (dCons (dC (.int 1)) dNil))) dNil)))) (dCons (dTup (dCons (dLstV (dCons (dC (.int 0)) (dCons (dC (.int 1)) dNil))) (dCons (dTup (dCons (dC (.int 0)) (dCons (dC (.int 1)) dNil))) dNil))) (dCons (dLstV dNil) (dCons (dLstV (dCons (dC (.int 0)) (dCons (dC (.int 1)) dNil))) (dCons (dLstV (dCons (dTup (dCons (dC (.int 0)) (dCons (dC (.int 1)) dNil))) (dCons (dTup (dCons (dC (.int 0)) (dCons (dC (.int 1)) dNil))) dNil))) (dCons (dDict []) (dCons (dDict [(.str "A", .int 1)]) (dCons (dTup (dCons (dC (.str "vertex")) (dCons (dC (.int 0)) dNil))) (dCons (dTup (dCons (dC (.str "edge")) (dCons (dC (.int 0)) dNil))) (dCons (dTup (dCons (dC (.str "face")) (dCons (dC (.int 0)) dNil))) (dCons (dTup (dCons (dC (.str "face")) (dCons (dC (.int 1)) dNil))) (dCons (dTup (dCons (dC (.str "face")) (dCons (dC (.bool true)) dNil))) (dCons (dTup (dCons (dC (.str "vertex")) (dCons (dNeg (dC (.int 1))) dNil))) (dCons (dTup (dCons (dC (.str "cell")) (dCons (dC (.int 0)) dNil))) (dCons (dLstV (dCons (dC (.str "face")) (dCons (dC (.int 0)) dNil))) (dCons (dTup (dCons (dC (.str "spot")) (dCons (dVar 1) dNil))) (dCons (dTup (dCons (dC (.str "spot")) (dCons (dTup (dCons (dVar 1) dNil)) dNil))) (dCons (dTup (dCons (dC (.str "spot")) (dCons (dVar 1) (dCons (dVar 2) dNil)))) (dCons (dTup (dCons (dC (.str "path")) (dCons (dTup (dCons (dVar 1) (dCons (dVar 2) dNil))) dNil))) (dCons (dTup (dCons (dC (.str "path")) (dCons (dTup (dCons (dVar 1) (dCons (dVar 1) dNil))) dNil))) (dCons (dTup (dCons (dC (.str "path")) (dCons (dTup (dCons (dVar 1) dNil)) dNil))) (dCons (dTup (dCons (dC (.str "path")) (dCons (dTup dNil) dNil))) (dCons (dTup (dCons (dC (.str "area")) (dCons (dTup (dCons (dVar 1) (dCons (dVar 2) (dCons (dVar 3) dNil)))) dNil))) (dCons (dTup (dCons (dC (.str "area")) (dCons (dTup (dCons (dVar 1) (dCons (dVar 2) (dCons (dVar 1) dNil)))) dNil))) (dCons (dTup (dCons (dC (.str "area")) (dCons (dTup (dCons (dVar 1) (dCons (dVar 2) dNil))) dNil))) (dCons (dTup (dCons (dC (.str "area")) (dCons (dLstV (dCons (dVar 1) (dCons (dVar 2) (dCons (dVar 3) dNil)))) dNil))) (dCons (dTup (dCons (dC (.str "rim")) (dCons (dTup (dCons (dC (.str "spot")) (dCons (dVar 1) dNil))) dNil))) (dCons (dTup (dCons (dC (.str "rim")) dNil)) (dCons (dTup (dCons (dC (.str "both")) (dCons (dTup (dCons (dC (.str "spot")) (dCons (dVar 1) dNil))) (dCons (dTup (dCons (dC (.str "spot")) (dCons (dVar 2) dNil))) dNil)))) (dCons (dTup (dCons (dC (.str "both")) (dCons (dTup (dCons (dC (.str "spot")) (dCons (dVar 1) dNil))) dNil))) (dCons (dTup (dCons (dC (.str "not")) (dCons (dTup (dCons (dC (.str "spot")) (dCons (dVar 1) dNil))) dNil))) (dCons (dTup (dCons (dC (.str "closure")) (dCons (dC (.str "A")) dNil))) (dCons (dTup (dCons (dC (.str "inner")) (dCons (dTup (dCons (dC (.str "spot")) (dCons (dVar 2) dNil))) (dCons (dTup (dCons (dC (.str "spot")) (dCons (dVar 2) dNil))) dNil)))) (dCons (dTup (dCons (dTup (dCons (dC (.str "A")) (dCons (dTup (dCons (dC (.str "spot")) (dCons (dVar 1) dNil))) dNil))) dNil)) (dCons (dTup (dCons (dTup (dCons (dC (.str "B")) (dCons (dTup (dCons (dC (.str "spot")) (dCons (dVar 1) dNil))) dNil))) (dCons (dTup (dCons (dC (.str "A")) (dCons (dTup (dCons (dC (.str "spot")) (dCons (dVar 1) dNil))) dNil))) dNil))) (dCons (dTup (dCons (dTup (dCons (dC (.str "a")) (dCons (dTup (dCons (dC (.str "spot")) (dCons (dVar 1) dNil))) dNil))) dNil)) (dCons (dTup (dCons (dTup (dCons (dC (.str "A")) (dCons (dVar 1) dNil))) dNil)) (dCons (dTup (dCons (dTup (dCons (dC (.str "A")) (dCons (dTup (dCons (dC (.str "spot")) (dCons (dVar 1) dNil))) dNil))) (dCons (dTup (dCons (dC (.str "A")) (dCons (dTup (dCons (dC (.str "spot")) (dCons (dVar 2) dNil))) dNil))) dNil))) (dCons (dTup (dCons (dTup (dCons (dVar 1) (dCons (dVar 2) dNil))) (dCons (dTup (dCons (dVar 2) (dCons (dVar 1) dNil))) dNil))) (dCons (dTup (dCons (dTup (dCons (dVar 1) (dCons (dVar 1) dNil))) dNil)) dNil)))))))))))))))))))))))))))))))))))))))))))))))))))))))))))))))))))))))))))))) (hName 4))
def b_odd_3 : TSd := (dRet (dFn0 sp_one_of (dCons (dVar 0) (dCons (dVar 4) dNil))))
def b_odd : TSd := (dSeq b_odd_1 (dSeq b_odd_2 b_odd_3))
def b_bent_1 (sp_self : SpD) : TSd := (dIfS (dAndT (dTst (dIs "tuple" (dVar 1))) (dAndT (dTst (dBin rNeV (dVar 1) (dTup dNil))) (dTst (dBin rGtD (dFn0 sp_draw (dCons (dVar 0) (dCons (dC (.int 5)) dNil))) (dC (.int 0)))))) (dSeq (dAsg (dFn0 sp_draw (dCons (dVar 0) (dCons (dCall cLen (dCons (dVar 1) dNil)) dNil))) (hName 2)) (dRet (dBin rAddD (dBin rAddD (dSl (dVar 1) dNoP (dPart (dVar 2))) (dTup (dCons (dFn0 sp_self (dCons (dVar 0) (dCons (dBin rIxD (dVar 1) (dVar 2)) dNil))) dNil))) (dSl (dVar 1) (dPart (dBin rAddD (dVar 2) (dC (.int 1)))) dNoP)))) dNext)
def b_bent_2 (sp_self : SpD) : TSd := (dAsg (dFn0 sp_draw (dCons (dVar 0) (dCons (dC (.int 9)) dNil))) (hName 3))
def b_bent_3 (sp_self : SpD) : TSd := (dIfS (dAndT (dTst (dIs "tuple" (dVar 1))) (dTst (dBin rLtD (dVar 3) (dC (.int 7))))) (dRet (dBin rIxD (dTup (dCons (dCall cListV (dCons (dVar 1) dNil)) (dCons (dSl (dVar 1) dNoP (dPart (dNeg (dC (.int 1))))) (dCons (dBin rAddD (dVar 1) (dSl (dVar 1) (dPart (dNeg (dC (.int 1)))) dNoP)) (dCons (dRev (dVar 1)) (dCons (dSl (dVar 1) (dPart (dC (.int 1))) dNoP) (dCons (dBin rAddD (dSl (dVar 1) dNoP (dPart (dC (.int 1)))) (dVar 1)) (dCons (dTup (dCons (dVar 1) dNil)) dNil)))))))) (dVar 3))) dNext)
def b_bent_4 (sp_self : SpD) : TSd := (dIfS (dAndT (dTst (dIs "int" (dVar 1))) (dTst (dBin rLtD (dVar 3) (dC (.int 6))))) (dRet (dBin rIxD (dTup (dCons (dBin rAddD (dVar 1) (dC (.int 1))) (dCons (dBin rSubD (dC (.int 0)) (dVar 1)) (dCons (dBin rMulD (dC (.int 2)) (dVar 1)) (dCons (dBin rSubD (dVar 1) (dC (.int 2))) (dCons (dBin rEqV (dVar 1) (dC (.int 1))) (dCons (dCall cStrI (dCons (dVar 1) dNil)) dNil))))))) (dVar 3))) dNext)
def b_bent_5 (sp_self : SpD) : TSd := (dRet (dFn0 sp_odd (dCons (dVar 0) dNil)))
def b_bent (sp_self : SpD) : TSd := (dSeq (b_bent_1 sp_self) (dSeq (b_bent_2 sp_self) (dSeq (b_bent_3 sp_self) (dSeq (b_bent_4 sp_self) (b_bent_5 sp_self)))))
def b_shape_1 (sp_self : SpD) : TSd := (dIfS (dOrT (dNotT (dTst (dFn0 sp_is_lot (dCons (dVar 0) (dCons (dC (.int 2)) (dCons (dC (.int 3)) dNil)))))) (dNotT (dTst (dIs "str" (dBin rIxD (dVar 0) (dC (.int 0))))))) (dRet (dTup (dCons (dC (.int 0)) (dCons (dC (.int 0)) dNil)))) dNext)
def b_shape_2 (sp_self : SpD) : TSd := (dPar 1 2 (dCons (dBin rIxD (dVar 0) (dC (.int 0))) (dCons (dSl (dVar 0) (dPart (dC (.int 1))) dNoP) dNil)))
def b_shape_3 (sp_self : SpD) : TSd := (dIfS (dTst (dBin (rInV false) (dVar 1) (dTup (dCons (dC (.str "both")) (dCons (dC (.str "either")) (dCons (dC (.str "less")) (dCons (dC (.str "closure")) (dCons (dC (.str "inner")) (dCons (dC (.str "rim")) dNil))))))))) (dSeq (dAsg (dLcV (dIter (dVar 2)) 7 dYes (dFn0 sp_self (dCons (dVar 7) dNil))) (hName 3)) (dSeq (dIfS (dOrT (dTst (dBin rNeV (dCall cLen (dCons (dVar 2) dNil)) (dIf (dTst (dBin (rInV false) (dVar 1) (dTup (dCons (dC (.str "both")) (dCons (dC (.str "either")) (dCons (dC (.str "less")) dNil)))))) (dC (.int 2)) (dC (.int 1))))) (dTst (dBin (rInV false) (dTup (dCons (dC (.int 0)) (dCons (dC (.int 0)) dNil))) (dVar 3)))) (dRet (dTup (dCons (dC (.int 0)) (dCons (dC (.int 0)) dNil)))) dNext) (dRet (dTup (dCons (dBin rAddD (dC (.int 1)) (dCall cMaxL (dCons (dLcV (dIter (dVar 3)) 7 dYes (dBin rIxD (dVar 7) (dC (.int 0)))) dNil))) (dCons (dCall cSumL (dCons (dLcV (dIter (dVar 3)) 7 dYes (dBin rIxD (dVar 7) (dC (.int 1)))) dNil)) dNil)))))) dNext)
def b_shape_4 (sp_self : SpD) : TSd := (dIfS (dOrT (dTst (dBin rNeV (dCall cLen (dCons (dVar 2) dNil)) (dC (.int 1)))) (dTst (dBin (rInV true) (dVar 1) (dTup (dCons (dC (.str "spot")) (dCons (dC (.str "path")) (dCons (dC (.str "area")) dNil))))))) (dRet (dTup (dCons (dC (.int 0)) (dCons (dC (.int 0)) dNil)))) dNext)
def b_shape_5 (sp_self : SpD) : TSd := (dIfS (dTst (dBin rEqV (dVar 1) (dC (.str "spot")))) (dRet (dIf (dTst (dFn0 sp_is_told (dCons (dBin rIxD (dVar 2) (dC (.int 0))) dNil))) (dTup (dCons (dC (.int 1)) (dCons (dC (.int 0)) dNil))) (dTup (dCons (dC (.int 0)) (dCons (dC (.int 0)) dNil))))) dNext)
def b_shape_6 (sp_self : SpD) : TSd := (dPar 4 5 (dCons (dBin rIxD (dVar 2) (dC (.int 0))) (dCons (dIf (dTst (dBin rEqV (dVar 1) (dC (.str "area")))) (dC (.int 3)) (dC (.int 2))) dNil)))
def b_shape_7 (sp_self : SpD) : TSd := (dIfS (dOrT (dNotT (dTst (dFn0 sp_is_lot (dCons (dVar 4) (dCons (dVar 5) (dCons (dC (.int 12)) dNil)))))) (dNotT (dTst (dCall cAll (dCons (dLcV (dIter (dVar 4)) 7 dYes (dFn0 sp_is_told (dCons (dVar 7) dNil))) dNil))))) (dRet (dTup (dCons (dC (.int 0)) (dCons (dC (.int 0)) dNil)))) dNext)
def b_shape_8 (sp_self : SpD) : TSd := (dAsg (dFn0 sp_pairs (dCons (dVar 4) (dCons (dBin rEqV (dVar 1) (dC (.str "area"))) dNil))) (hName 6))
def b_shape_9 (sp_self : SpD) : TSd := (dRet (dIf (dTst (dCall cAll (dCons (dLcV (dIter (dVar 6)) 7 dYes (dBin rNeV (dBin rIxD (dVar 7) (dC (.int 0))) (dBin rIxD (dVar 7) (dC (.int 1))))) dNil))) (dTup (dCons (dC (.int 1)) (dCons (dCall cLen (dCons (dVar 6) dNil)) dNil))) (dTup (dCons (dC (.int 0)) (dCons (dC (.int 0)) dNil)))))
def b_shape (sp_self : SpD) : TSd := (dSeq (b_shape_1 sp_self) (dSeq (b_shape_2 sp_self) (dSeq (b_shape_3 sp_self) (dSeq (b_shape_4 sp_self) (dSeq (b_shape_5 sp_self) (dSeq (b_shape_6 sp_self) (dSeq (b_shape_7 sp_self) (dSeq (b_shape_8 sp_self) (b_shape_9 sp_self)))))))))
def b_wrapped_1 : TSd := (dAsg (dFn0 sp_leaf (dCons (dVar 0) (dCons (dVar 1) (dCons (dLst (dCons (dC (.int 6)) dNil)) dNil)))) (hName 2))
def b_wrapped_2 : TSd := (dFor (dRng1 (dCons (dBin rAddD (dC (.int 4)) (dFn0 sp_draw (dCons (dVar 0) (dCons (dC (.int 4)) dNil)))) dNil)) (hName 3) (dSeq (dAsg (dFn0 sp_one_of (dCons (dVar 0) (dCons (dTup (dCons (dC (.str "closure")) (dCons (dC (.str "inner")) (dCons (dC (.str "rim")) (dCons (dC (.str "both")) (dCons (dC (.str "either")) (dCons (dC (.str "less")) dNil))))))) dNil))) (hName 4)) (dIfS (dTst (dBin (rInV false) (dVar 4) (dTup (dCons (dC (.str "closure")) (dCons (dC (.str "inner")) (dCons (dC (.str "rim")) dNil)))))) (dAsg (dTup (dCons (dVar 4) (dCons (dVar 2) dNil))) (hName 2)) (dSeq (dAsg (dFn0 sp_leaf (dCons (dVar 0) (dCons (dVar 1) (dCons (dLst (dCons (dC (.int 1)) dNil)) dNil)))) (hName 5)) (dAsg (dIf (dTst (dBin rEqV (dFn0 sp_draw (dCons (dVar 0) (dCons (dC (.int 2)) dNil))) (dC (.int 0)))) (dTup (dCons (dVar 4) (dCons (dVar 2) (dCons (dVar 5) dNil)))) (dTup (dCons (dVar 4) (dCons (dVar 5) (dCons (dVar 2) dNil))))) (hName 2))))))
def b_wrapped_3 : TSd := (dRet (dVar 2))
def b_wrapped : TSd := (dSeq b_wrapped_1 (dSeq b_wrapped_2 b_wrapped_3))
def b_wide_1 : TSd := (dAsg (dTup (dCons (dC (.str "area")) (dCons (dFn0 sp_row (dCons (dVar 0) (dCons (dVar 1) (dCons (dC (.int 12)) (dCons (dC (.bool true)) dNil))))) dNil))) (hName 2))
def b_wide_2 : TSd := (dAsg (dTup (dCons (dC (.str "area")) (dCons (dFn0 sp_row (dCons (dVar 0) (dCons (dVar 1) (dCons (dBin rAddD (dC (.int 9)) (dFn0 sp_draw (dCons (dVar 0) (dCons (dC (.int 3)) dNil)))) (dCons (dC (.bool true)) dNil))))) dNil))) (hName 3))
def b_wide_3 : TSd := (dAsg (dTup (dCons (dC (.str "path")) (dCons (dFn0 sp_row (dCons (dVar 0) (dCons (dVar 1) (dCons (dBin rAddD (dC (.int 2)) (dFn0 sp_draw (dCons (dVar 0) (dCons (dC (.int 4)) dNil)))) (dCons (dC (.bool false)) dNil))))) dNil))) (hName 4))
def b_wide_4 : TSd := (dAsg (dFn0 sp_one_of (dCons (dVar 0) (dCons (dTup (dCons (dC (.str "either")) (dCons (dC (.str "less")) (dCons (dC (.str "both")) dNil)))) dNil))) (hName 5))
def b_wide_5 : TSd := (dRet (dFn0 sp_one_of (dCons (dVar 0) (dCons (dTup (dCons (dTup (dCons (dVar 5) (dCons (dVar 2) (dCons (dTup (dCons (dVar 5) (dCons (dVar 3) (dCons (dVar 4) dNil)))) dNil)))) (dCons (dTup (dCons (dVar 5) (dCons (dTup (dCons (dC (.str "rim")) (dCons (dTup (dCons (dVar 5) (dCons (dVar 4) (dCons (dVar 2) dNil)))) dNil))) (dCons (dVar 3) dNil)))) dNil))) dNil))))
def b_wide : TSd := (dSeq b_wide_1 (dSeq b_wide_2 (dSeq b_wide_3 (dSeq b_wide_4 b_wide_5))))
def b_line_1 : TSd := (dAsg (dFn0 sp_one_of (dCons (dVar 0) (dCons (dTup (dCons (dC (.int 1)) (dCons (dC (.int 2)) (dCons (dC (.int 3)) (dCons (dC (.int 7)) (dCons (dC (.int 11)) (dCons (dC (.int 12)) (dCons (dC (.int 13)) dNil)))))))) dNil))) (hName 2))
def b_line_2 : TSd := (dRet (dTup (dCons (dFn0 sp_one_of (dCons (dVar 0) (dCons (dTup (dCons (dC (.str "path")) (dCons (dC (.str "area")) dNil))) dNil))) (dCons (dFn0 sp_row (dCons (dVar 0) (dCons (dVar 1) (dCons (dVar 2) (dCons (dBin rEqV (dFn0 sp_draw (dCons (dVar 0) (dCons (dC (.int 2)) dNil))) (dC (.int 0))) dNil))))) dNil))))
def b_line : TSd := (dSeq b_line_1 b_line_2)
def b_is_due_1 : TSd := (dAsg (dFn0 sp_shape (dCons (dVar 0) dNil)) (hTup 2 (hCons (hName 1) (hCons (hName 2) hNil))))
def b_is_due_2 : TSd := (dRet (dAnd (dChain rLtD rLtD (dC (.int 0)) (dVar 1) (dC (.int 7))) (dBin rLtD (dVar 2) (dC (.int 25)))))
def b_is_due : TSd := (dSeq b_is_due_1 b_is_due_2)
def b_right_1 : TSd := (dAsg (dFn0 sp_frame (dCons (dVar 0) dNil)) (hName 1))
def b_right_2 : TSd := (dAsg (dLst (dCons (dFn0 sp_figure (dCons (dVar 0) (dCons (dVar 1) (dCons (dC (.int 4)) (dCons (dLst (dCons (dC (.int 10)) dNil)) dNil))))) (dCons (dFn0 sp_wrapped (dCons (dVar 0) (dCons (dVar 1) dNil))) (dCons (dFn0 sp_wide (dCons (dVar 0) (dCons (dVar 1) dNil))) (dCons (dFn0 sp_line (dCons (dVar 0) (dCons (dVar 1) dNil))) dNil))))) (hName 2))
def b_right_3 : TSd := (dAsg (dBin rAddD (dBin rAddD (dVar 2) (dLcV (dIter (dVar 2)) 4 dYes (dFn0 sp_bent (dCons (dVar 0) (dCons (dVar 4) dNil))))) (dLstV (dCons (dFn0 sp_bent (dCons (dVar 0) (dCons (dBin rIxD (dVar 2) (dC (.int 0))) dNil))) (dCons (dFn0 sp_odd (dCons (dVar 0) dNil)) (dCons (dFn0 sp_odd (dCons (dVar 0) dNil)) dNil))))) (hName 2))
def b_right_4 : TSd := (dDrop (dApp (dVar 2) (dTup (dCons (dFn0 sp_one_of (dCons (dVar 0) (dCons (dTup (dCons (dC (.str "rim")) (dCons (dC (.str "both")) (dCons (dC (.str "spot")) (dCons (dC (.str "area")) (dCons (dC (.str "path")) (dCons (dC (.str "less")) dNil))))))) dNil))) (dCons (dFn0 sp_odd (dCons (dVar 0) dNil)) dNil)))))
def b_right_5 : TSd := (dAsg (dLcV (dIter (dVar 2)) 4 dYes (dFn0 sp_is_due (dCons (dVar 4) dNil))) (hName 3))
def b_right_6 : TSd := (dRet (dAnd (dBin rEqV (dCall cRepr (dCons (dLcV (dIter (dVar 2)) 4 dYes (dFn0 sp_is_figure (dCons (dVar 4) dNil))) dNil)) (dCall cRepr (dCons (dVar 3) dNil))) (dBin rEqV (dCall cRepr (dCons (dFnK sp_is_figure [0] (dCons (dBin rIxD (dVar 2) (dC (.int 4))) dNil)) dNil)) (dCall cRepr (dCons (dBin rIxD (dVar 3) (dC (.int 4))) dNil)))))
def b_right : TSd := (dSeq b_right_1 (dSeq b_right_2 (dSeq b_right_3 (dSeq b_right_4 (dSeq b_right_5 b_right_6)))))
def b_law : TSd := (dRet (dCall cAll (dCons (dLcV (dRng1 (dCons (dCall cMax (dCons (dC (.int 2)) (dCons (dCall cMin (dCons (dCall cLen (dCons (dVar 0) dNil)) (dCons (dC (.int 4)) dNil))) dNil))) dNil)) 1 dYes (dFn0 sp_right (dCons (dFn0 sp_spring (dCons (dVar 0) (dCons (dVar 1) dNil))) dNil))) dNil)))
end K12
local macro_rules | `(tactic| walk_at "val") => `(tactic| repeat' (first | exact DL.vls_nil | apply DL.vls_cons | exact DL.val_c | exact DL.val_dict | exact DL.val_neg | exact DL.val_var rfl | apply DL.val_tup | apply DL.val_lst | apply DL.val_lstV | exact DL.val_pow ⟨by decide, by decide, by decide⟩ | decide))
local macro_rules | `(tactic| walk_at "st") => `(tactic| simp only [DL.startD, List.map_cons, List.map_nil, List.length_cons, List.length_nil, Nat.reduceAdd, Nat.reduceSub, List.replicate_succ, List.replicate_zero, List.cons_append, List.nil_append, List.append_nil, Nat.sub_self, Nat.zero_add])
local macro_rules | `(tactic| walk_at "go") => `(tactic| simp only [↓DL.dSeq, ↓DL.dNext, ↓DL.dAsg, ↓DL.dRet, ↓DL.dRetN, ↓DL.dIfS, ↓DL.dDrop, ↓DL.dBin, ↓DL.dCons, ↓DL.dNil, ↓DL.dTup, ↓DL.dC, ↓DL.dNeg, ↓DL.dAnd, ↓DL.dOr, ↓DL.dNot, ↓DL.dIf, ↓DL.dTst, ↓DL.asB, ↓DL.dChain, ↓DL.dAndT, ↓DL.dOrT, ↓DL.dNotT, ↓DL.dCall, ↓DL.dFn0, ↓DL.dFn, ↓DL.cIntB, ↓DL.dFnK, ↓DL.dIs, ↓DL.dSl, ↓DL.dNoP, ↓DL.dPart, ↓DL.dRev, ↓DL.dLst, ↓DL.dLstV, ↓DL.cListV, ↓DL.dDict, ↓DL.dPar, ↓DL.dPar3, ↓DL.tup2, ↓DL.tup3, ↓DL.tup4, ↓DL.tup5, ↓DL.tup22, ↓DL.tup12, ↓DL.hName, ↓DL.hSub, ↓DL.rI2, ↓DL.rSubD, ↓DL.rMulD, ↓DL.rMulX, ↓DL.rDivF, ↓DL.rDivD, ↓DL.rModD, ↓DL.rPowD, ↓DL.rLtD, ↓DL.rLeD, ↓DL.rGtD, ↓DL.rGeD, ↓DL.rAddD, ↓DL.ixt_0, ↓DL.ixt_1, ↓DL.ixt_2, ↓DL.ixt_3, ↓DL.ixt_4, ↓DL.ixl_0, ↓DL.ixl_1, ↓DL.ixl_2, ↓DL.ixl_3, ↓DL.ixl_4, ↓DL.rEqV, ↓DL.rNeV, ↓DL.rSlD, ↓DL.cLen, ↓DL.cAbs, ↓DL.cInt, ↓DL.cStrI, ↓DL.cDivmod, ↓DL.cMin, ↓DL.cMax, ↓DL.cGcd, ↓DL.cLcm, ↓DL.cAll, ↓DL.cRepr, ↓DL.cReprX, ↓DL.cList, ↓DL.cTuple, ↓DL.rC1, ↓DL.rC2, ↓DL.dNever, ↓DL.dIter, ↓DL.dRng1, ↓DL.dRng2, ↓DL.dYes,
  ↓DL.frz_d, ↓DL.var_zero, ↓DL.var_succ, ↓DL.var_set, ↓DL.var_ne, DL.own_some, DL.no_own2, DL.eqv_int, DL.sh_int, DL.sh_bool, DL.kit_int, DL.kit_bool, DL.kit_tuple, DL.kit_str, DL.is_int, DL.is_bool, DL.is_tuple, DL.is_str, DL.pures_nil, DL.pures_cons, Option.map_some, List.length_cons, List.length_nil, List.length_set, List.map_cons, List.map_nil, DL.pick, List.filterMap_cons, List.filterMap_nil,
  true_and, and_true, ite_true, ite_false, if_true, if_false, reduceIte, reduceCtorEq, ne_eq, not_false_eq_true, Nat.reduceAdd, Nat.reduceLT, Nat.reduceEqDiff, decide_eq_true_eq, Bool.not_true, Bool.not_false, Bool.false_eq_true, eq_self])
namespace K12
open PySem PySem.Spec PyProof.Rows L2 DL LB
/-! ### all over a generator expression, whose element leaves the store as it is -/
theorem allG_run {ti : TId} {te : TEd} {e : Ed} {fvs : List (Str × Nat)} {st : Sto} {Q : Kd} (xs : List D) (g : Nat → D → Bool) (b : Bool) (hi : ∀ R : ItD → Sto → Prop, R ⟨xs, none⟩ st → ti e st R) (hl : xs.length < sizeLine)
    (ht : ∀ i d, xs[i]? = some d → ∀ Q' : Kd, Q' (Bo (g i d)) st → te (gE e fvs d) st Q') (hb : b = true ↔ ∀ i d, xs[i]? = some d → g i d = true) (k : Q (Bo b) st) : dAllG ti fvs te e st Q := by
  refine hi _ ⟨hl, fun i st2 => st2 = st ∧ ∀ j d, j < i → xs[j]? = some d → g j d = true, ⟨rfl, fun j d hj => absurd hj (Nat.not_lt_zero _)⟩, ?_⟩
  rintro i st2 ⟨rfl, hw⟩
  refine ⟨(fun a ds z => nomatch z), (fun hi => ?_), fun d hd => ht i d hd _ ?_⟩
  · have : b = true := hb.mpr fun j d hj => hw j d (Nat.lt_of_lt_of_le (List.getElem?_eq_some_iff.mp hj).1 hi) hj
    rw [this] at k
    exact k
  · show if g i d = true then _ else _
    by_cases hg : g i d = true
    · rw [if_pos hg]
      refine ⟨rfl, fun j d' hj hd' => ?_⟩
      rcases Nat.lt_succ_iff_lt_or_eq.mp hj with h | h
      · exact hw j d' h hd'
      · subst h
        rw [hd] at hd'
        cases hd'
        exact hg
    · rw [if_neg hg]
      have : b = false := by
        cases b with
        | false => rfl
        | true => exact absurd (hb.mp rfl i d hd) hg
      rw [this] at k
      exact k
theorem pl_form {x : PyData} (h : isPl x = true) : ∃ a b c d : Int, x = .tuple [fr a b, fr c d] := by
  unfold isPl at h
  split at h
  · rename_i p q
    rw [Bool.and_eq_true] at h
    obtain ⟨h1, h2⟩ := h
    unfold isFr at h1 h2
    split at h1
    · split at h2
      · exact ⟨_, _, _, _, rfl⟩
      · cases h2
    · cases h1
  · cases h
theorem pl_sh {x : PyData} (h : isPl x = true) : SeqAt.shaped x = true := by
  obtain ⟨a, b, c, d, rfl⟩ := pl_form h
  simp [fr, SeqAt.shaped, PyData.canLay0, PyData.canLayAll0, PyData.depth, PyData.depthAll]
theorem ne_pl {x y : PyData} {st : Sto} {Q : Kd} (hx : isPl x = true) (hy : isPl y = true) (k : Q (Bo (!PyData.eqv x y)) st) : rNeV (.d x) (.d y) st Q := by
  have sx := pl_sh hx
  have sy := pl_sh hy
  obtain ⟨a, b, c, d, rfl⟩ := pl_form hx
  obtain ⟨a', b', c', d', rfl⟩ := pl_form hy
  exact ⟨sx, sy, k⟩
theorem unl_iff : ∀ ps : List PyData, unl ps = true ↔ ∀ i x y, ps[i]? = some x → ps[i + 1]? = some y → (!PyData.eqv x y) = true
  | [] => ⟨fun _ i x y h => by simp at h, fun _ => rfl⟩
  | [a] => ⟨fun _ i x y _ h => by simp at h, fun _ => rfl⟩
  | a :: b :: r => by
    have ih := unl_iff (b :: r)
    unfold unl
    rw [Bool.and_eq_true, ih]
    constructor
    · rintro ⟨h1, h2⟩ i x y hx hy
      cases i with
      | zero =>
        cases hx
        cases hy
        exact h1
      | succ i => exact h2 i x y hx hy
    · intro h
      exact ⟨h 0 a b rfl rfl, fun i x y hx hy => h (i + 1) x y hx hy⟩
theorem r_is_line : ∀ ds st Q, sp_is_line ds st Q → b_is_line { nx := fun _ s' => Q (.d .none) s', rt := Q } (startD N_is_line ds) st := by
  rintro ds st Q ⟨x, l, rfl, k⟩
  show b_is_line _ [some (.d x), some (I l)] st
  unfold b_is_line b_is_line_1 b_is_line_2
  (first | walk_at "go" | skip)
  show if (!isRow l 12 x) = true then _ else _
  by_cases hr : isRow l 12 x = true
  · rw [hr, if_neg (by decide)]
    cases x with
    | tuple ps =>
      have hr' : (decide (l ≤ ps.length) && decide (ps.length ≤ 12)) = true := by
        have := hr
        unfold isRow at this
        rw [Bool.and_eq_true, decide_eq_true_iff, decide_eq_true_iff] at this ⊢
        omega
      have h12 : ps.length ≤ 12 := by
        rw [Bool.and_eq_true, decide_eq_true_iff, decide_eq_true_iff] at hr'
        exact hr'.2
      have hsm : 12 < sizeLine := by decide
      refine allG_run (ps.map D.d) (fun i d => match d with | .d y => isPl y | _ => false) (ps.all isPl) (fun R hR => ⟨_, rfl, hR⟩) (by rw [List.length_map]; omega) (fun i d hd Q' hQ => ?_) ?_ ?_
      · rw [List.getElem?_map] at hd
        cases e : ps[i]? with
        | none =>
          rw [e] at hd
          cases hd
        | some y =>
          rw [e] at hd
          cases hd
          exact ⟨_, rfl, hQ⟩
      · rw [List.all_eq_true]
        constructor
        · intro h i d hd
          rw [List.getElem?_map] at hd
          cases e : ps[i]? with
          | none =>
            rw [e] at hd
            cases hd
          | some y =>
            rw [e] at hd
            cases hd
            exact h y (List.mem_of_getElem? e)
        · intro h y hy
          obtain ⟨i, e⟩ := List.mem_iff_getElem?.mp hy
          exact h i (.d y) (by rw [List.getElem?_map, e]; rfl)
      · show if (!ps.all isPl) = true then _ else _
        by_cases hp : ps.all isPl = true
        · rw [hp, if_neg (by decide)]
          have hpl : ∀ i y, ps[i]? = some y → isPl y = true := fun i y hy => List.all_eq_true.mp hp y (List.mem_of_getElem? hy)
          have hx : isLn l (.tuple ps) = unl ps := by
            show (decide (l ≤ ps.length) && decide (ps.length ≤ 12) && ps.all isPl && unl ps) = _
            rw [hr', hp]
            simp
          rw [hx] at k
          refine allG_run ((List.range ((ps.length : Int) - 1).toNat).map fun (i : Nat) => D.d (.int (0 + i))) (fun i d => match ps[i]?, ps[i + 1]? with | some x, some y => !PyData.eqv x y | _, _ => false) (unl ps) (fun R hR => ⟨_, rfl, trivial, by omega, by omega, hR⟩) (by rw [List.length_map, List.length_range]; omega) (fun i d hd Q' hQ => ?_) ?_ (.inl k)
          · rw [List.getElem?_map] at hd
            have hi : i < ((ps.length : Int) - 1).toNat := by
              by_cases h : i < ((ps.length : Int) - 1).toNat
              · exact h
              · rw [List.getElem?_eq_none (by rw [List.length_range]; omega)] at hd
                cases hd
            rw [List.getElem?_range hi] at hd
            cases hd
            have h1 : ps[i]? = some ps[i] := List.getElem?_eq_getElem (by omega)
            have h2 : ps[i + 1]? = some ps[i + 1] := List.getElem?_eq_getElem (by omega)
            simp only [h1, h2] at hQ
            refine ⟨_, rfl, _, rfl, ps[i], ?_, _, rfl, _, rfl, ps[i + 1], ?_, ne_pl (hpl i _ h1) (hpl _ _ h2) hQ⟩
            · rw [Int.zero_add]
              exact atI_nat h1
            · have e : (0 : Int) + (i : Int) + 1 = ((i + 1 : Nat) : Int) := by omega
              rw [e]
              exact atI_nat h2
          · rw [unl_iff]
            constructor
            · intro h i d hd
              have hi : i < ((ps.length : Int) - 1).toNat := by
                have := (List.getElem?_eq_some_iff.mp hd).1
                rw [List.length_map, List.length_range] at this
                exact this
              have h1 : ps[i]? = some ps[i] := List.getElem?_eq_getElem (by omega)
              have h2 : ps[i + 1]? = some ps[i + 1] := List.getElem?_eq_getElem (by omega)
              simp only [h1, h2]
              exact h i _ _ h1 h2
            · intro h i x y h1 h2
              have hi : i + 1 < ps.length := (List.getElem?_eq_some_iff.mp h2).1
              have := h i (.d (.int (0 + (i : Nat)))) (by rw [List.getElem?_map, List.getElem?_range (by omega)]; rfl)
              simp only [h1, h2] at this
              exact this
        · have hp' : ps.all isPl = false := by simpa using hp
          have hx : isLn l (.tuple ps) = false := by
            show (decide (l ≤ ps.length) && decide (ps.length ≤ 12) && ps.all isPl && unl ps) = _
            rw [hp']
            simp
          rw [hx] at k
          rw [hp', if_pos (by decide)]
          exact k
    | _ => simp [isRow] at hr
  · have e : isRow l 12 x = false := by simpa using hr
    rw [e, if_pos (by decide)]
    have hx : isLn l x = false := by
      cases x with
      | tuple ps =>
        show (decide (l ≤ ps.length) && decide (ps.length ≤ 12) && ps.all isPl && unl ps) = _
        unfold isRow at e
        have : (decide (l ≤ ps.length) && decide (ps.length ≤ 12)) = false := by
          rw [Bool.and_eq_false_iff, decide_eq_false_iff_not, decide_eq_false_iff_not] at e ⊢
          omega
        rw [this]
        simp
      | _ => rfl
    rw [hx] at k
    first
    | exact k
    | exact .inl k
end K12
namespace K12
open PySem PySem.Spec PyProof.Rows L2 DL LB
theorem isLn_form {l : Nat} {x : PyData} (h : isLn l x = true) : ∃ ps, x = .tuple ps ∧ l ≤ ps.length ∧ ps.length ≤ 12 ∧ (∀ y ∈ ps, isPl y = true) ∧ unl ps = true := by
  cases x with
  | tuple ps =>
    have h : (decide (l ≤ ps.length) && decide (ps.length ≤ 12) && ps.all isPl && unl ps) = true := h
    rw [Bool.and_eq_true, Bool.and_eq_true, Bool.and_eq_true, decide_eq_true_iff, decide_eq_true_iff, List.all_eq_true] at h
    exact ⟨ps, rfl, h.1.1.1, h.1.1.2, h.1.2, h.2⟩
  | _ => cases h
theorem getLast_at {α : Type} {a : α} {r : List α} : (a :: r)[(a :: r).length - 1]? = some ((a :: r).getLast (by simp)) := by
  rw [List.getLast_eq_getElem]
  exact List.getElem?_eq_getElem _
theorem r_is_basic : ∀ ds st Q, sp_is_basic ds st Q → b_is_basic { nx := fun _ s' => Q (.d .none) s', rt := Q } (startD N_is_basic ds) st := by
  rintro ds st Q ⟨w, x, rfl, k⟩
  show b_is_basic _ [some (.d (.str w)), some (.d x)] st
  unfold b_is_basic b_is_basic_1 b_is_basic_2 b_is_basic_3
  (first | walk_at "go" | skip)
  unfold isBas at k
  by_cases e1 : w = "spot"
  · rw [if_pos e1]
    rw [if_pos e1] at k
    exact .inl k
  · rw [if_neg e1]
    rw [if_neg e1] at k
    by_cases e2 : w = "path"
    · rw [if_pos e2]
      rw [if_pos e2] at k
      exact ⟨x, 2, rfl, .inl k⟩
    · rw [if_neg e2]
      rw [if_neg e2] at k
      by_cases e3 : w = "area"
      · rw [if_pos e3]
        rw [decide_eq_true e3, Bool.true_and] at k
        refine ⟨x, 3, rfl, ?_⟩
        show if isLn 3 x = true then _ else _
        by_cases hl : isLn 3 x = true
        · rw [if_pos hl]
          rw [hl, Bool.true_and] at k
          obtain ⟨ps, rfl, l1, l2, hp, hu⟩ := isLn_form hl
          cases ps with
          | nil => simp at l1
          | cons a r =>
            refine ⟨a, atI_nat (j := 0) rfl, (a :: r).getLast (by simp), atI_last getLast_at, ne_pl (hp _ (by simp)) (hp _ (List.getLast_mem _)) ?_⟩
            first | exact k | exact .inl k
        · rw [if_neg hl]
          have : isLn 3 x = false := by simpa using hl
          rw [this, Bool.false_and] at k
          exact k
      · rw [if_neg e3]
        rw [decide_eq_false e3, Bool.false_and] at k
        exact k
theorem row_of {x : PyData} {lo hi : Int} (h : isRow lo hi x = true) : ∃ xs, x = .tuple xs ∧ lo ≤ xs.length ∧ (xs.length : Int) ≤ hi := by
  cases x with
  | tuple xs =>
    have h : (decide (lo ≤ (xs.length : Int)) && decide ((xs.length : Int) ≤ hi)) = true := h
    rw [Bool.and_eq_true, decide_eq_true_iff, decide_eq_true_iff] at h
    exact ⟨xs, rfl, h.1, h.2⟩
  | _ => cases h
theorem figF_row {n : Nat} {x : PyData} (h : isRow 2 3 x = false) : figF n x = false := by
  cases n with
  | zero => rfl
  | succ n =>
    unfold figF
    split
    · rename_i w rest
      have e : ¬ (rest.length = 1 ∨ rest.length = 2) := by
        intro hl
        have h : (decide ((2 : Int) ≤ ((PyData.str w :: rest).length : Int)) && decide (((PyData.str w :: rest).length : Int) ≤ 3)) = false := h
        rw [Bool.and_eq_false_iff, decide_eq_false_iff_not, decide_eq_false_iff_not, List.length_cons] at h
        omega
      split
      · split
        · exact absurd (.inr rfl) e
        · rfl
      · split
        · exact absurd (.inl rfl) e
        · rfl
    · rfl
theorem r_is_figure_form (n : Nat) (self : SpD) (hs : ∀ m, n = m + 1 → ∀ ds st Q, sp_is_figure_formK m ds st Q → self ds st Q) : ∀ ds st Q, sp_is_figure_formK n ds st Q → b_is_figure_form self { nx := fun _ s' => Q (.d .none) s', rt := Q } (startD N_is_figure_form ds) st := by
  rintro ds st Q ⟨x, rfl, k⟩
  show b_is_figure_form self _ [some (.d x), some (I n)] st
  unfold b_is_figure_form b_is_figure_form_1 b_is_figure_form_2 b_is_figure_form_3 b_is_figure_form_4 b_is_figure_form_5
  cases n with
  | zero =>
    (first | walk_at "go" | skip)
    exact k
  | succ n =>
    have hs := hs n rfl
    have en : ((n + 1 : Nat) : Int) - 1 = (n : Int) := by omega
    (first | walk_at "go" | skip)
    rw [if_neg (by omega)]
    show if (!isRow 2 3 x) = true then _ else _
    by_cases hr : isRow 2 3 x = true
    · rw [hr, if_neg (by decide)]
      obtain ⟨xs, rfl, l1, l2⟩ := row_of hr
      cases xs with
      | nil => simp at l1
      | cons a rest =>
        (first | walk_at "go" | skip)
        cases a with
        | str w =>
          have hl : rest.length = 1 ∨ rest.length = 2 := by
            rw [List.length_cons] at l1 l2
            omega
          unfold figF at k
          dsimp only at k ⊢
          rw [if_neg (by decide)]
          refine rin_strs (ws := pairW) ?_
          (first | walk_at "go" | skip)
          rw [en]
          by_cases c1 : w ∈ pairW
          · rw [if_pos c1] at k
            have e1 : pairW.contains w = true := by simpa using c1
            rw [e1, if_pos (by decide)]
            match rest, hl with
            | [y], _ => 
              rw [if_neg (by simp)]
              exact k
            | [y, z], _ =>
              have k : Q (Bo (figF n y && figF n z)) st := k
              rw [if_pos (by rfl)]
              refine ⟨y, rfl, hs _ _ _ ⟨y, rfl, ?_⟩⟩
              show if figF n y = true then _ else _
              cases hp : figF n y
              · rw [if_neg (by decide)]
                rw [hp] at k
                exact k
              · rw [if_pos rfl]
                rw [hp] at k
                exact ⟨z, rfl, hs _ _ _ ⟨z, rfl, .inl k⟩⟩
          · rw [if_neg c1] at k
            have e1 : pairW.contains w = false := by simpa using c1
            rw [e1, if_neg (by decide)]
            match rest, hl with
            | [y, z], _ =>
              rw [if_pos (by simp)]
              exact k
            | [y], _ =>
              rw [if_neg (by simp)]
              refine rin_strs (ws := nearW) ?_
              (first | walk_at "go" | skip)
              have k : Q (Bo (if w ∈ nearW then figF n y else isBas w y)) st := k
              by_cases c2 : w ∈ nearW
              · rw [if_pos c2] at k
                have e2 : nearW.contains w = true := by simpa using c2
                rw [e2, if_pos (by decide)]
                exact hs _ _ _ ⟨y, rfl, .inl k⟩
              · rw [if_neg c2] at k
                have e2 : nearW.contains w = false := by simpa using c2
                rw [e2, if_neg (by decide)]
                exact ⟨w, y, rfl, .inl k⟩
        | _ => exact k
    · have e : isRow 2 3 x = false := by simpa using hr
      rw [e, if_pos (by decide)]
      rw [figF_row e] at k
      exact k
end K12
namespace K12
open PySem PySem.Spec PyProof.Rows L2 DL LB
/-- what a figure is made of -/
inductive FF : Nat → PyData → Prop
  | two {n : Nat} {w : Str} {y z : PyData} (h : w ∈ pairW) (a : figF n y = true) (b : figF n z = true) : FF (n + 1) (.tuple [.str w, y, z])
  | one {n : Nat} {w : Str} {y : PyData} (h1 : w ∉ pairW) (h : w ∈ nearW) (a : figF n y = true) : FF (n + 1) (.tuple [.str w, y])
  | bas {n : Nat} {w : Str} {y : PyData} (h1 : w ∉ pairW) (h : w ∉ nearW) (a : isBas w y = true) : FF (n + 1) (.tuple [.str w, y])
theorem figF_ff {n : Nat} {x : PyData} (h : figF n x = true) : FF n x := by
  cases n with
  | zero => cases h
  | succ n =>
    unfold figF at h
    split at h
    · rename_i w rest
      by_cases c1 : w ∈ pairW
      · rw [if_pos c1] at h
        split at h
        · rw [Bool.and_eq_true] at h
          exact .two c1 h.1 h.2
        · cases h
      · rw [if_neg c1] at h
        split at h
        · by_cases c2 : w ∈ nearW
          · rw [if_pos c2] at h
            exact .one c1 c2 h
          · rw [if_neg c2] at h
            exact .bas c1 c2 h
        · cases h
    · cases h
theorem basF_two {n : Nat} {w : Str} {y z : PyData} (h : w ∈ pairW) : basF (n + 1) (.tuple [.str w, y, z]) = basF n y ++ basF n z := by
  show (if w ∈ pairW then _ else _) = _
  rw [if_pos h]
theorem basF_one {n : Nat} {w : Str} {y : PyData} (h1 : w ∉ pairW) (h : w ∈ nearW) : basF (n + 1) (.tuple [.str w, y]) = basF n y := by
  show (if w ∈ pairW then _ else if w ∈ nearW then _ else _) = _
  rw [if_neg h1, if_pos h]
theorem basF_bas {n : Nat} {w : Str} {y : PyData} (h1 : w ∉ pairW) (h : w ∉ nearW) : basF (n + 1) (.tuple [.str w, y]) = [.tuple [.str w, y]] := by
  show (if w ∈ pairW then _ else if w ∈ nearW then _ else _) = _
  rw [if_neg h1, if_neg h]
theorem basF_ok : ∀ (n : Nat) (x : PyData), figF n x = true → (basF n x).length ≤ 2 ^ n ∧ ∀ y ∈ basF n x, ∃ w z, y = .tuple [.str w, z] ∧ isBas w z = true := by
  intro n
  induction n with
  | zero => intro x h; cases h
  | succ n ih =>
    intro x h
    cases figF_ff h with
    | two h1 a b =>
      rw [basF_two h1]
      obtain ⟨l1, q1⟩ := ih _ a
      obtain ⟨l2, q2⟩ := ih _ b
      refine ⟨by rw [List.length_append, Nat.pow_succ]; omega, fun y hy => ?_⟩
      rcases List.mem_append.mp hy with hy | hy
      · exact q1 y hy
      · exact q2 y hy
    | one h1 h2 a =>
      rw [basF_one h1 h2]
      obtain ⟨l1, q1⟩ := ih _ a
      exact ⟨by rw [Nat.pow_succ]; omega, q1⟩
    | bas h1 h2 a =>
      rw [basF_bas h1 h2]
      refine ⟨Nat.one_le_two_pow, fun y hy => ?_⟩
      rw [List.mem_singleton.mp hy]
      exact ⟨_, _, rfl, a⟩
theorem r_basics_of (n : Nat) (self : SpD) (hs : ∀ m, n = m + 1 → ∀ ds st Q, sp_basics_ofK m ds st Q → self ds st Q) : ∀ ds st Q, sp_basics_ofK n ds st Q → b_basics_of self { nx := fun _ s' => Q (.d .none) s', rt := Q } (startD N_basics_of ds) st := by
  rintro ds st Q ⟨x, rfl, hn, hf, k⟩
  show b_basics_of self _ [some (.d x)] st
  unfold b_basics_of b_basics_of_1 b_basics_of_2 b_basics_of_3
  cases n with
  | zero => cases hf
  | succ n =>
    have hs := hs n rfl
    have pw : 2 ^ n ≤ 2 ^ 6 := Nat.pow_le_pow_right (by decide) (by omega)
    cases figF_ff hf with
    | @two _ w y z h1 a b =>
      rw [basF_two h1] at k
      (first | walk_at "go" | skip)
      refine rin_strs (ws := pairW) ?_
      (first | walk_at "go" | skip)
      have e1 : pairW.contains w = true := by simpa using h1
      rw [e1, if_pos (by decide)]
      have la := (basF_ok n y a).1
      have lb := (basF_ok n z b).1
      refine hs _ _ _ ⟨y, rfl, by omega, a, hs _ _ _ ⟨z, rfl, by omega, b, ?_⟩⟩
      exact ⟨big_ok (by omega), k⟩
    | @one _ w y h1 h2 a =>
      rw [basF_one h1 h2] at k
      (first | walk_at "go" | skip)
      refine rin_strs (ws := pairW) ?_
      (first | walk_at "go" | skip)
      have e1 : pairW.contains w = false := by simpa using h1
      rw [e1, if_neg (by decide)]
      refine rin_strs (ws := nearW) ?_
      (first | walk_at "go" | skip)
      have e2 : nearW.contains w = true := by simpa using h2
      rw [e2, if_pos (by decide)]
      exact hs _ _ _ ⟨y, rfl, by omega, a, .inl k⟩
    | @bas _ w y h1 h2 a =>
      rw [basF_bas h1 h2] at k
      (first | walk_at "go" | skip)
      refine rin_strs (ws := pairW) ?_
      (first | walk_at "go" | skip)
      have e1 : pairW.contains w = false := by simpa using h1
      rw [e1, if_neg (by decide)]
      refine rin_strs (ws := nearW) ?_
      (first | walk_at "go" | skip)
      have e2 : nearW.contains w = false := by simpa using h2
      rw [e2, if_neg (by decide)]
      first | exact ⟨by decide, k⟩ | exact ⟨by decide, .inl k⟩ | exact ⟨big_ok (by decide), k⟩ | exact k
theorem pl_ne_str {x : PyData} (h : isPl x = true) : ∀ s, x ≠ .str s := by
  obtain ⟨a, b, c, d, rfl⟩ := pl_form h
  intro s z
  cases z
theorem r_lines_of_basic : ∀ ds st Q, sp_lines_of_basic ds st Q → b_lines_of_basic { nx := fun _ s' => Q (.d .none) s', rt := Q } (startD N_lines_of_basic ds) st := by
  rintro ds st Q ⟨w, x, rfl, hb, k⟩
  show b_lines_of_basic _ [some (.d (.tuple [.str w, x])), none, none, none] st
  unfold b_lines_of_basic b_lines_of_basic_1 b_lines_of_basic_2 b_lines_of_basic_3 b_lines_of_basic_4
  (first | walk_at "go" | skip)
  unfold isBas at hb
  by_cases e1 : w = "spot"
  · rw [if_pos e1]
    have : lnB (.tuple [.str w, x]) = [] := by
      unfold lnB
      split
      · rename_i w' ps h
        cases h
        rw [if_pos e1]
      · rfl
    rw [this] at k
    first | exact ⟨by decide, k⟩ | exact ⟨by decide, .inl k⟩ | exact k
  · rw [if_neg e1]
    rw [if_neg e1] at hb
    have hl : ∃ ps, x = .tuple ps ∧ 2 ≤ ps.length ∧ ps.length ≤ 12 := by
      by_cases e2 : w = "path"
      · rw [if_pos e2] at hb
        obtain ⟨ps, rfl, h1, h2, _⟩ := isLn_form hb
        exact ⟨ps, rfl, h1, h2⟩
      · rw [if_neg e2, Bool.and_eq_true, Bool.and_eq_true] at hb
        obtain ⟨ps, rfl, h1, h2, _⟩ := isLn_form hb.2.1
        exact ⟨ps, rfl, by omega, h2⟩
    obtain ⟨ps, rfl, h1, h2⟩ := hl
    have k : Q (.d (.tuple (if w = "spot" then [] else if w = "area" then zipD ps (ps.drop 1) ++ [.tuple [ps.getLastD .none, ps.headD .none]] else zipD ps (ps.drop 1)))) st := k
    rw [if_neg e1] at k
    match ps, h1, h2 with
    | a :: b :: r, h1, h2 =>
      have hz : (zipD (a :: b :: r) (b :: r)).length ≤ 12 := by
        unfold zipD
        rw [List.length_map, List.length_zip]
        exact Nat.le_trans (Nat.min_le_left ..) h2
      refine ⟨_, rfl, _, rfl, .inl ?_⟩
      rw [cut_tail]
      have k : Q (.d (.tuple (if w = "area" then zipD (a :: b :: r) (b :: r) ++ [.tuple [(a :: b :: r).getLast (by simp), a]] else zipD (a :: b :: r) (b :: r)))) st := k
      show if w = "area" then _ else _
      by_cases e3 : w = "area"
      · rw [if_pos e3]
        rw [if_pos e3] at k
        refine ⟨_, atI_last getLast_at, a, atI_nat (j := 0) rfl, by decide, by decide, ?_⟩
        exact ⟨big_ok (by simp only [List.length_cons, List.length_nil]; omega), k⟩
      · rw [if_neg e3]
        rw [if_neg e3] at k
        exact .inl k
theorem zipD_len {xs ys : List PyData} : (zipD xs ys).length ≤ xs.length := by
  unfold zipD
  rw [List.length_map, List.length_zip]
  exact Nat.min_le_left ..
theorem lnB_len {w : Str} {x : PyData} (h : isBas w x = true) : (lnB (.tuple [.str w, x])).length ≤ 13 := by
  unfold lnB
  split
  · rename_i w' ps e
    cases e
    unfold isBas at h
    by_cases e1 : w = "spot"
    · rw [if_pos e1]
      simp
    · rw [if_neg e1] at h ⊢
      have hl : ps.length ≤ 12 := by
        by_cases e2 : w = "path"
        · rw [if_pos e2] at h
          obtain ⟨qs, e, h1, h2, _⟩ := isLn_form h
          cases e
          exact h2
        · rw [if_neg e2, Bool.and_eq_true, Bool.and_eq_true] at h
          obtain ⟨qs, e, h1, h2, _⟩ := isLn_form h.2.1
          cases e
          exact h2
      have := zipD_len (xs := ps) (ys := ps.drop 1)
      split
      · rw [List.length_append, List.length_singleton]
        omega
      · omega
  · simp
/-- a comprehension with two fors, whose element is the second name -/
theorem lc2_run {ti ti1 : TId} {i i1 : Nat} {te : TEd} {e : Ed} {st : Sto} {Q : Kd} (xs : List PyData) (f : PyData → List PyData) (m n : Nat) (hi : ∀ R : ItD → Sto → Prop, R ⟨xs.map D.d, none⟩ st → ti e st R) (hn : xs.length ≤ n) (hm : ∀ x ∈ xs, (f x).length ≤ m) (hs : n * m < sizeLine)
    (hi1 : ∀ x ∈ xs, ∀ R : ItD → Sto → Prop, R ⟨(f x).map D.d, none⟩ st → ti1 ((e.set i1 none).set i (some (.d x))) st R)
    (he : ∀ x y (Q' : Kd), Q' (.d y) st → te (((e.set i1 none).set i (some (.d x))).set i1 (some (.d y))) st Q') (k : Q (.d (.list (xs.flatMap f))) st) : dLc2 mkV ti i ti1 i1 te e st Q := by
  have fl : ∀ j, ((xs.take j).flatMap f).length ≤ j * m := by
    intro j
    induction j with
    | zero => simp
    | succ j ih =>
      rw [List.take_add_one, List.flatMap_append, List.length_append, Nat.succ_mul]
      cases h : xs[j]? with
      | none =>
        simp only [Option.toList_none, List.flatMap_nil, List.length_nil]
        omega
      | some x =>
        have := hm x (List.mem_of_getElem? h)
        simp only [Option.toList_some, List.flatMap_cons, List.flatMap_nil, List.append_nil]
        omega
  refine hi _ ⟨fun j acc st2 => st2 = st ∧ j ≤ xs.length ∧ acc = ((xs.take j).flatMap f).map D.d, ⟨rfl, Nat.zero_le _, by simp⟩, ?_⟩
  rintro j acc st2 ⟨rfl, hj, rfl⟩
  refine ⟨(fun a ds z => nomatch z), (fun h => ?_), fun d hd => ?_⟩
  · have h : (xs.map D.d).length ≤ j := h
    rw [List.length_map] at h
    have : xs.take j = xs := List.take_of_length_le h
    rw [this]
    exact ⟨_, pures_map _, k⟩
  · have hd : (xs.map D.d)[j]? = some d := hd
    rw [List.getElem?_map] at hd
    cases ex : xs[j]? with
    | none =>
      rw [ex] at hd
      cases hd
    | some x =>
      rw [ex] at hd
      cases hd
      have hx := List.mem_of_getElem? ex
      have hj' : j < xs.length := (List.getElem?_eq_some_iff.mp ex).1
      have lj := fl j
      have mx := hm x hx
      have bound : j * m + m ≤ n * m := by
        rw [← Nat.succ_mul]
        exact Nat.mul_le_mul_right _ (by omega)
      refine hi1 x hx _ ⟨fun j1 acc1 st4 => st4 = st2 ∧ j1 ≤ (f x).length ∧ acc1 = ((xs.take j).flatMap f ++ (f x).take j1).map D.d, ⟨rfl, Nat.zero_le _, by simp⟩, ?_⟩
      rintro j1 acc1 st4 ⟨rfl, hj1, rfl⟩
      refine ⟨(fun a ds z => nomatch z), (fun h => ?_), fun d1 hd1 => ?_⟩
      · have h : ((f x).map D.d).length ≤ j1 := h
        rw [List.length_map] at h
        refine ⟨rfl, hj', ?_⟩
        rw [List.take_of_length_le h, List.take_add_one, ex, List.flatMap_append]
        simp
      · have hd1 : ((f x).map D.d)[j1]? = some d1 := hd1
        rw [List.getElem?_map] at hd1
        cases ey : (f x)[j1]? with
        | none =>
          rw [ey] at hd1
          cases hd1
        | some y =>
          rw [ey] at hd1
          cases hd1
          have hj2 : j1 < (f x).length := (List.getElem?_eq_some_iff.mp ey).1
          refine he x y _ ⟨?_, rfl, hj2, ?_⟩
          · rw [List.length_map, List.length_append, List.length_take]
            omega
          · rw [List.take_add_one, ey]
            simp
theorem r_lines_in : ∀ ds st Q, sp_lines_in ds st Q → b_lines_in { nx := fun _ s' => Q (.d .none) s', rt := Q } (startD N_lines_in ds) st := by
  rintro ds st Q ⟨x, rfl, hf, k⟩
  show b_lines_in _ [some (.d x), none, none] st
  unfold b_lines_in
  obtain ⟨hb1, hb2⟩ := basF_ok 6 x hf
  refine lc2_run (basF 6 x) lnB 13 64 (fun R hR => ⟨_, rfl, x, rfl, by decide, hf, hR⟩) hb1 (fun y hy => ?_) (by decide) (fun y hy R hR => ?_) (fun y z Q' hQ => ⟨_, rfl, hQ⟩) ?_
  · obtain ⟨w, z, rfl, hz⟩ := hb2 y hy
    exact lnB_len hz
  · obtain ⟨w, z, rfl, hz⟩ := hb2 y hy
    exact ⟨_, rfl, w, z, rfl, hz, hR⟩
  · exact ⟨_, rfl, .inl k⟩
theorem r_is_figure : ∀ ds st Q, sp_is_figure ds st Q → b_is_figure { nx := fun _ s' => Q (.d .none) s', rt := Q } (startD N_is_figure ds) st := by
  rintro ds st Q ⟨x, rfl, k⟩
  show b_is_figure _ [some (.d x)] st
  unfold b_is_figure
  unfold figB at k
  refine ⟨_, rfl, x, rfl, ?_⟩
  show if figF 6 x = true then _ else _
  by_cases hf : figF 6 x = true
  · rw [if_pos hf]
    rw [hf, Bool.true_and] at k
    refine ⟨_, rfl, x, rfl, hf, ?_⟩
    have e : decide (((linF x).length : Int) ≤ 24) = decide ((linF x).length ≤ 24) := by
      rw [Bool.eq_iff_iff, decide_eq_true_iff, decide_eq_true_iff]
      omega
    refine ⟨trivial, ?_⟩
    show frz Q (.d (.bool (decide (((linF x).length : Int) ≤ 24)))) st
    rw [e]
    exact .inl k
  · rw [if_neg hf]
    have : figF 6 x = false := by simpa using hf
    rw [this, Bool.false_and] at k
    exact .inl k
end K12
namespace K12
open PySem PySem.Spec PyProof.Rows L2 DL LB
theorem pairsF_map {c : Bool} {a b : PyData} {r : List PyData} : (pairsF c (a :: b :: r)).map (fun z => (PyData.tuple [z.1, z.2])) = zipD (a :: b :: r) (b :: r) ++ if c = true then [.tuple [(a :: b :: r).getLast (by simp), a]] else [] := by
  unfold pairsF zipD
  rw [List.map_append]
  cases c <;> rfl
theorem r_box : ∀ ds st Q, sp_box ds st Q → b_box { nx := fun _ s' => Q (.d .none) s', rt := Q } (startD N_box ds) st := by
  intro ds st Q h
  unfold sp_box at h
  split at h
  · rename_i p x y s u w
    obtain ⟨F, n, ys, hst, hy, hn, k⟩ := h
    have w0 := F.w0
    have w1 := F.w1
    show b_box _ [some (.own p), some (.d (.tuple [.int x, .int y, .int s, .int u, .int w])), none, none, none, none, none] st
    refine ⟨_, rfl, _, rfl, _, rfl, trivial, draw_ hst hy (by omega) (by omega) (by omega) fun i zs i0 i1 hy => ?_⟩
    refine ⟨_, rfl, _, rfl, _, rfl, trivial, draw_ put_same hy (by omega) (by omega) (by omega) fun j zs j0 j1 hy => ?_⟩
    rw [put_put]
    show (dSeq b_box_2 (dSeq b_box_3 b_box_4)) _ [some (.own p), some (.d (.tuple [.int x, .int y, .int s, .int u, .int w])), some (I i), some (I j), none, none, none] _
    refine ⟨_, rfl, _, rfl, _, rfl, _, rfl, trivial, _, rfl, trivial, draw_ put_same hy (by omega) (by omega) (by omega) fun i2 zs i20 i21 hy => ?_⟩
    rw [put_put]
    refine ⟨_, rfl, _, rfl, _, rfl, _, rfl, trivial, _, rfl, trivial, draw_ put_same hy (by omega) (by omega) (by omega) fun j2 zs j20 j21 hy => ?_⟩
    rw [put_put]
    show (dSeq b_box_3 b_box_4) _ [some (.own p), some (.d (.tuple [.int x, .int y, .int s, .int u, .int w])), some (I i), some (I j), some (I (i + 1 + i2)), some (I (j + 1 + j2)), none] _
    have b6 : ∀ {z : Int}, 0 ≤ z → z < 20 → B 6 z := fun h0 h1 => B_lt 20 (by omega) (by omega) (by decide)
    have b20 : ∀ {z : Int}, B 6 z → B 20 z := fun h => B_mono h (by decide)
    have bi : B 6 i := b6 (by omega) (by omega)
    have bj : B 6 j := b6 (by omega) (by omega)
    have bk : B 6 (i + 1 + i2) := b6 (by omega) (by omega)
    have bm : B 6 (j + 1 + j2) := b6 (by omega) (by omega)
    have G : ∀ {a b : Int}, B 6 a → B 6 b → (gridP x y s u a b 1).G := fun ha hb => gridP_G F (by decide) (by decide) ha hb
    refine ⟨_, rfl, _, rfl, _, rfl, F, by decide, by decide, b20 bi, b20 bj, ?_⟩
    refine ⟨_, rfl, _, rfl, _, rfl, F, by decide, by decide, b20 bk, b20 bj, ?_⟩
    refine ⟨_, rfl, _, rfl, _, rfl, F, by decide, by decide, b20 bk, b20 bm, ?_⟩
    refine ⟨_, rfl, _, rfl, _, rfl, F, by decide, by decide, b20 bi, b20 bm, ?_⟩
    refine ⟨big_ok (by simp), .inl ?_⟩
    refine ⟨_, rfl, draw_ put_same hy (by omega) (by decide) (by decide) fun t zs t0 t1 hy => ⟨trivial, ?_⟩⟩
    rw [put_put]
    show if decide ((0 : Int) < t) = true then _ else _
    have fin : ∀ ps : List Pt, ptsOk ps → Q (.d (.tuple (ps.map Pt.py))) (put st p zs) := fun ps hp => spS_done k ⟨ps, rfl, hp⟩ hy (by omega)
    have hq : ptsOk [gridP x y s u i j 1, gridP x y s u (i + 1 + i2) j 1, gridP x y s u (i + 1 + i2) (j + 1 + j2) 1, gridP x y s u i (j + 1 + j2) 1] := by
      refine ⟨fun q hq => ?_, by simp⟩
      simp only [List.mem_cons, List.not_mem_nil, or_false] at hq
      rcases hq with rfl | rfl | rfl | rfl
      · exact G bi bj
      · exact G bk bj
      · exact G bk bm
      · exact G bi bm
    have hq2 : ptsOk [gridP x y s u i (j + 1 + j2) 1, gridP x y s u (i + 1 + i2) (j + 1 + j2) 1, gridP x y s u (i + 1 + i2) j 1, gridP x y s u i j 1] := by
      refine ⟨fun q h => hq.1 q ?_, by simp⟩
      simp only [List.mem_cons, List.not_mem_nil, or_false] at h ⊢
      rcases h with h | h | h | h <;> simp [h]
    split
    · exact ⟨_, rfl, _, rfl, .inl (fin _ hq)⟩
    · exact ⟨_, rfl, _, rfl, .inl ⟨_, rfl, _, rfl, .inl (fin _ hq2)⟩⟩
  · exact h.elim
theorem r_pairs : ∀ ds st Q, sp_pairs ds st Q → b_pairs { nx := fun _ s' => Q (.d .none) s', rt := Q } (startD N_pairs ds) st := by
  rintro ds st Q ⟨ps, c, rfl, h1, h0, k⟩
  show b_pairs _ [some (.d (.tuple ps)), some (Bo c), none] st
  unfold b_pairs b_pairs_1 b_pairs_2 b_pairs_3
  match ps, h0, h1 with
  | a :: b :: r, _, h1 =>
    have ek : ∀ p, st p = none → Q (.own p) (put st p (((pairsF c (a :: b :: r)).map fun z => PyData.tuple [z.1, z.2]).map D.d)) := fun p hp => by
      have := k p hp
      rw [List.map_map]
      exact this
    rw [pairsF_map] at ek
    have hz := zipD_len (xs := a :: b :: r) (ys := b :: r)
    refine ⟨_, rfl, _, rfl, ?_⟩
    show mkL ((zipD (a :: b :: r) (cutP (a :: b :: r) (some 1) none)).map D.d) st _
    rw [cut_tail]
    refine .inr fun p hp => .inl ?_
    refine ⟨_, rfl, ?_⟩
    show if c = true then _ else _
    cases c with
    | false =>
      rw [if_neg (by decide), List.append_nil] at ek
      rw [if_neg (by decide)]
      exact ⟨_, rfl, .inl (ek p hp)⟩
    | true =>
      rw [if_pos rfl] at ek
      rw [if_pos rfl]
      have hl : (zipD (a :: b :: r) (b :: r)).length < sizeLine := Nat.lt_of_le_of_lt (Nat.le_trans hz h1) (by decide)
      refine ⟨_, rfl, by rw [put_same]; rfl, _, rfl, _, atI_last getLast_at, _, rfl, _, atI_nat (j := 0) rfl, big_ok (by simp), _, put_same, by rw [List.length_map]; exact hl, ?_⟩
      rw [put_put]
      refine ⟨_, rfl, .inl ?_⟩
      have := ek p hp
      rw [List.map_append] at this
      exact this
end K12
namespace K12
open PySem PySem.Spec PyProof.Rows L2 DL LB
theorem put_sw {st : Sto} {p r : Addr} {a b c : List D} (h : p ≠ r) : put (put (put st p a) r b) p c = put (put st p c) r b := by
  funext x
  by_cases e1 : x = p
  · subst e1
    rw [put_same, put_ne h, put_same]
  · rw [put_ne e1]
    by_cases e2 : x = r
    · subst e2
      rw [put_same, put_same]
    · rw [put_ne e2, put_ne e1, put_ne e2, put_ne e1]
theorem ite_t {c : Prop} [Decidable c] {a b : Prop} (h : c) (k : a) : if c then a else b := by rw [if_pos h]; exact k
theorem ite_f {c : Prop} [Decidable c] {a b : Prop} (h : ¬ c) (k : b) : if c then a else b := by rw [if_neg h]; exact k
theorem r_leaf : ∀ ds st Q, sp_leaf ds st Q → b_leaf { nx := fun _ s' => Q (.d .none) s', rt := Q } (startD N_leaf ds) st := by
  intro ds st Q h
  unfold sp_leaf at h
  split at h
  · rename_i p x y s u w r
    obtain ⟨F, n, ys, m, hst, hy, hn, hpr, hr, m0, m1, k⟩ := h
    have hrp : r ≠ p := fun e => hpr e.symm
    show b_leaf _ [some (.own p), some (.d (frP x y s u w)), some (.own r), none, none] st
    refine ⟨_, rfl, big_ok (by decide), one_tup hst hy (by omega) (by decide) (by decide) fun v zs hv hy => .inl ?_⟩
    have hr1 : (put st p zs) r = some [I m] := by rw [put_ne hrp]; exact hr
    -- a dot
    have dot : ∀ v, b_leaf_4 { nx := fun _ s' => Q (.d .none) s', rt := Q } [some (.own p), some (.d (frP x y s u w)), some (.own r), some (.d v), none] (put st p zs) := by
      intro v
      refine ⟨_, rfl, _, rfl, F, n + 1, zs, put_same, hy, by omega, ?_⟩
      rintro _ ws ⟨q, rfl, hq⟩ hw
      rw [put_put]
      refine ⟨big_ok (by simp), .inl ?_⟩
      have := k (.d (.tuple [.str "spot", q.py])) ws m ⟨_, rfl, .spot hq⟩ (hw.mono (by omega)) m0 m1
      have e : put (put st p ws) r [I m] = put st p ws := by
        funext z
        by_cases ez : z = r
        · rw [ez, put_same, put_ne hrp, hr]
        · rw [put_ne ez]
      rw [e] at this
      exact this
    -- a path
    have path : ∀ v : Str, v ≠ "spot" → dSeq b_leaf_3 b_leaf_4 { nx := fun _ s' => Q (.d .none) s', rt := Q } [some (.own p), some (.d (frP x y s u w)), some (.own r), some (.d (.str v)), none] (put st p zs) := by
      intro v hv
      refine ⟨_, rfl, ?_⟩
      show if (!decide (v = "spot")) = true then _ else _
      rw [if_pos (by simpa using hv)]
      refine ⟨_, rfl, [I m], I m, hr1, rfl, trivial, ?_⟩
      show if decide ((0 : Int) < m) = true then _ else _
      by_cases hm : (0 : Int) < m
      · rw [if_pos (decide_eq_true hm)]
        refine ⟨_, rfl, _, rfl, [I m], I m, hr1, rfl, trivial, ?_⟩
        have hmin : 0 < (if m < 3 then m else (3 : Int)) ∧ (if m < 3 then m else (3 : Int)) ≤ 3 ∧ (if m < 3 then m else (3 : Int)) ≤ m := by
          split <;> omega
        generalize (if m < 3 then m else (3 : Int)) = mm at hmin ⊢
        refine draw_ put_same hy (by omega) (by omega) (by omega) fun t ws t0 t1 hw => .inl ?_
        rw [put_put]
        have hr2 : (put st p ws) r = some [I m] := by rw [put_ne hrp]; exact hr
        refine ⟨_, rfl, [I m], I m, hr2, rfl, _, rfl, trivial, .inl ?_⟩
        refine ⟨_, rfl, [I m], 0, hr2, rfl, ?_⟩
        refine ⟨_, rfl, _, rfl, _, rfl, F, by omega, by omega, n + 2, ws, by rw [put_ne hpr, put_same], hw, by omega, ?_⟩
        rintro _ us ⟨ps, rfl, hl, hg, _⟩ hu
        rw [put_sw hpr]
        refine ⟨big_ok (by simp), .inl ?_⟩
        exact k _ us (m - (2 + t) + 1) ⟨_, rfl, .line (.inl rfl) ⟨hg, by omega⟩⟩ (hu.mono (by omega)) (by omega) (by omega)
      · rw [if_neg (by simpa using hm)]
        exact dot _
    simp only [List.mem_cons, List.not_mem_nil, or_false] at hv
    have hv3 : v = .str "spot" ∨ v = .str "path" ∨ v = .str "area" := by
      rcases hv with h | h | h | h | h <;> simp [h]
    have area : ∀ v, v = PyData.str "area" → (dSeq b_leaf_2 (dSeq b_leaf_3 b_leaf_4)) { nx := fun _ s' => Q (.d .none) s', rt := Q } [some (.own p), some (.d (frP x y s u w)), some (.own r), some (.d v), none] (put st p zs) := by
      rintro _ rfl
      refine ⟨_, rfl, ?_⟩
      refine ⟨_, rfl, [I m], I m, hr1, rfl, trivial, ?_⟩
      show if decide ((2 : Int) < m) = true then _ else _
      by_cases hm : (2 : Int) < m
      · rw [if_pos (decide_eq_true hm)]
        refine ⟨_, rfl, _, rfl, [I m], I m, hr1, rfl, trivial, trivial, ?_⟩
        have hmin : 0 < (if m - 2 < 3 then m - 2 else (3 : Int)) ∧ (if m - 2 < 3 then m - 2 else (3 : Int)) ≤ 3 ∧ (if m - 2 < 3 then m - 2 else (3 : Int)) ≤ m - 2 := by
          split <;> omega
        generalize (if m - 2 < 3 then m - 2 else (3 : Int)) = mm at hmin ⊢
        refine draw_ put_same hy (by omega) (by omega) (by omega) fun t ws t0 t1 hw => .inl ?_
        rw [put_put]
        have hr2 : (put st p ws) r = some [I m] := by rw [put_ne hrp]; exact hr
        refine ⟨_, rfl, [I m], I m, hr2, rfl, _, rfl, trivial, .inl ?_⟩
        refine ⟨_, rfl, [I m], 0, hr2, rfl, ?_⟩
        have row : ∀ (nx : Ed → Sto → Prop) (ws : List D) (a : Nat), SprL ws (n + a) → a ≤ 3 → (dRet (dTup (dCons (dVar 3) (dCons (dFn0 sp_row (dCons (dVar 0) (dCons (dVar 1) (dCons (dVar 4) (dCons (dC (.bool true)) dNil))))) dNil)))) { nx := nx, rt := Q } [some (.own p), some (.d (frP x y s u w)), some (.own r), some (.d (.str "area")), some (I (3 + t))] (put (put st p ws) r [I (m - (3 + t))]) := by
          intro nx ws a hw ha
          refine ⟨_, rfl, _, rfl, _, rfl, _, rfl, F, by omega, by omega, n + a, ws, by rw [put_ne hpr, put_same], hw, by omega, ?_⟩
          rintro _ us ⟨ps, rfl, hl, hg, _⟩ hu
          rw [put_sw hpr]
          refine ⟨big_ok (by simp), .inl ?_⟩
          exact k _ us (m - (3 + t)) ⟨_, rfl, .line (.inr rfl) ⟨hg, by omega⟩⟩ (hu.mono (by omega)) (by omega) (by omega)
        refine ⟨_, rfl, ?_⟩
        show if decide ((3 : Int) + t = 4) = true then _ else _
        by_cases h4 : (3 : Int) + t = 4
        · rw [if_pos (decide_eq_true h4)]
          refine ⟨_, rfl, draw_ (by rw [put_ne hpr, put_same]) hw (by omega) (by decide) (by decide) fun t' us _ _ hu => ⟨trivial, ?_⟩⟩
          rw [put_sw hpr]
          show if decide ((0 : Int) < t') = true then _ else _
          by_cases h5 : (0 : Int) < t'
          · rw [if_pos (decide_eq_true h5)]
            refine ⟨_, rfl, _, rfl, _, rfl, F, n + 3, us, by rw [put_ne hpr, put_same], hu, by omega, ?_⟩
            rintro _ vs ⟨ps, rfl, hp⟩ hv
            rw [put_sw hpr]
            refine ⟨big_ok (by simp), .inl ?_⟩
            exact k _ vs (m - (3 + t)) ⟨_, rfl, .line (.inr rfl) hp⟩ (hv.mono (by omega)) (by omega) (by omega)
          · rw [if_neg (by simpa using h5)]
            exact row _ us 3 hu (by omega)
        · rw [if_neg (by simpa using h4)]
          exact row _ ws 2 hw (by omega)
      · rw [if_neg (by simpa using hm)]
        exact path "area" (by decide)
    rcases hv3 with rfl | rfl | rfl
    · exact ⟨_, rfl, ⟨_, rfl, dot _⟩⟩
    · exact ⟨_, rfl, path "path" (by decide)⟩
    · exact area _ rfl
  · exact h.elim
end K12
namespace K12
open PySem PySem.Spec PyProof.Rows L2 DL LB
theorem Fg.mono {n : Nat} {x : PyData} (h : Fg n x) : ∀ {m : Nat}, n ≤ m → Fg m x := by
  induction h with
  | spot h =>
    intro m hm
    obtain ⟨k, rfl⟩ : ∃ k, m = k + 1 := ⟨m - 1, by omega⟩
    exact .spot h
  | line h hp =>
    intro m hm
    obtain ⟨k, rfl⟩ : ∃ k, m = k + 1 := ⟨m - 1, by omega⟩
    exact .line h hp
  | one h a ih =>
    intro m hm
    obtain ⟨k, rfl⟩ : ∃ k, m = k + 1 := ⟨m - 1, by omega⟩
    exact .one h (ih (by omega))
  | two h a b ih1 ih2 =>
    intro m hm
    obtain ⟨k, rfl⟩ : ∃ k, m = k + 1 := ⟨m - 1, by omega⟩
    exact .two h (ih1 (by omega)) (ih2 (by omega))
theorem near_not {w : Str} (h : w ∈ nearW) : w ∉ pairW ∧ w ≠ "leaf" := by
  simp only [nearW, List.mem_cons, List.not_mem_nil, or_false] at h
  rcases h with rfl | rfl | rfl <;> decide
theorem pair_not {w : Str} (h : w ∈ pairW) : w ∉ nearW ∧ w ≠ "leaf" := by
  simp only [pairW, List.mem_cons, List.not_mem_nil, or_false] at h
  rcases h with rfl | rfl | rfl <;> decide
theorem r_figure (n : Nat) (self : SpD) (hs : ∀ m, n = m + 1 → ∀ ds st Q, sp_figureK m ds st Q → self ds st Q) : ∀ ds st Q, sp_figureK n ds st Q → b_figure self { nx := fun _ s' => Q (.d .none) s', rt := Q } (startD N_figure ds) st := by
  rintro ds st Q ⟨p, x, y, s, u, w, j, r, rfl, hj, F, a, ys, m, hst, hy, ha, hpr, hr, m0, m1, k⟩
  have hrp : r ≠ p := fun e => hpr e.symm
  show b_figure self _ [some (.own p), some (.d (frP x y s u w)), some (I ((j + 1 : Nat) : Int)), some (.own r), none, none, none] st
  have c1 : 40 * 2 ^ (n + 1) = 40 * 2 ^ n + 40 * 2 ^ n := by rw [Nat.pow_succ]; omega
  have c0 : 40 ≤ 40 * 2 ^ n := by
    have := Nat.one_le_two_pow (n := n)
    omega
  have leaf : ∀ (nx : Ed → Sto → Prop) (t : Option D) (t2 : Option D) (t3 : Option D) (zs : List D) (b : Nat), SprL zs (a + b) → b ≤ 1 → (dRet (dFn0 sp_leaf (dCons (dVar 0) (dCons (dVar 1) (dCons (dVar 3) dNil))))) { nx := nx, rt := Q } [some (.own p), some (.d (frP x y s u w)), some (I ((j + 1 : Nat) : Int)), some (.own r), t, t2, t3] (put st p zs) := by
    intro nx t t2 t3 zs b hz hb
    refine ⟨_, rfl, _, rfl, _, rfl, F, a + b, zs, m, put_same, hz, by omega, hpr, by rw [put_ne hrp]; exact hr, m0, m1, ?_⟩
    rintro _ us m' ⟨y, rfl, hy'⟩ hu m0' m1'
    rw [put_put]
    exact .inl (k _ us m' ⟨y, rfl, hy'.mono (by omega)⟩ (hu.mono (by omega)) m0' m1')
  have leaf0 : put st p ys = st := by
    funext z
    by_cases ez : z = p
    · rw [ez, put_same, hst]
    · rw [put_ne ez]
  refine ⟨big_ok (by decide), .inl ?_⟩
  refine ⟨_, rfl, trivial, ?_⟩
  show if decide ((1 : Int) < ((j + 1 : Nat) : Int)) = true then _ else _
  cases j with
  | zero =>
    rw [if_neg (by decide)]
    refine .inl ?_
    refine ⟨_, rfl, ?_⟩
    have := leaf (nx := dSeq (b_figure_4 self) (dSeq (b_figure_5 self) (b_figure_6 self)) { nx := fun _ s' => Q (.d .none) s', rt := Q }) (some (.d (.tuple [.str "leaf", .str "leaf", .str "both", .str "either", .str "less", .str "closure", .str "inner", .str "rim"]))) (some (.d (.str "leaf"))) none ys 0 hy (by omega)
    rw [leaf0] at this
    exact this
  | succ j =>
    cases n with
    | zero => omega
    | succ n =>
      have hs := hs n rfl
      rw [if_pos (by rw [decide_eq_true_iff]; omega)]
      refine ⟨_, rfl, _, rfl, one_tup hst hy (by omega) (by decide) (by decide) fun v zs hv hz => .inl ?_⟩
      have ed : ((j + 1 + 1 : Nat) : Int) - 1 = ((j + 1 : Nat) : Int) := by omega
      have first : ∀ w2 : Str, (w2 ∈ nearW ∨ w2 ∈ pairW) → (dSeq (b_figure_4 self) (dSeq (b_figure_5 self) (b_figure_6 self))) { nx := fun _ s' => Q (.d .none) s', rt := Q } [some (.own p), some (.d (frP x y s u w)), some (I ((j + 1 + 1 : Nat) : Int)), some (.own r), some (.d (.tuple [.str "leaf", .str "leaf", .str "both", .str "either", .str "less", .str "closure", .str "inner", .str "rim"])), some (.d (.str w2)), none] (put st p zs) := by
        intro w2 hw2
        refine ⟨_, rfl, _, rfl, _, rfl, trivial, _, rfl, ?_⟩
        refine hs _ _ _ ⟨p, x, y, s, u, w, j, r, by rw [← ed], by omega, F, a + 1, zs, m, put_same, hz, by omega, hpr, by rw [put_ne hrp]; exact hr, m0, m1, ?_⟩
        rintro _ us m' ⟨f, rfl, hf⟩ hu m0' m1'
        rw [put_put]
        refine .inl ?_
        refine ⟨_, rfl, big_ok (by decide), rin_strs (ws := nearW) ?_⟩
        show if (false != nearW.contains w2) = true then _ else _
        rcases hw2 with h | h
        · have e : nearW.contains w2 = true := by simpa using h
          rw [e, if_pos (by decide)]
          exact ⟨_, rfl, _, rfl, big_ok (by simp), .inl (k _ us m' ⟨_, rfl, .one h hf⟩ (hu.mono (by omega)) m0' m1')⟩
        · have e : nearW.contains w2 = false := by simpa using (pair_not h).1
          rw [e, if_neg (by decide)]
          refine ⟨_, rfl, _, rfl, _, rfl, _, rfl, _, rfl, trivial, _, rfl, ?_⟩
          refine hs _ _ _ ⟨p, x, y, s, u, w, j, r, by rw [← ed], by omega, F, a + 1 + (40 * 2 ^ (n + 1) - 1), us, m', by rw [put_ne hpr, put_same], hu, by omega, hpr, put_same, m0', m1', ?_⟩
          rintro _ vs m2 ⟨g, rfl, hg⟩ hv m02 m12
          rw [put_sw hpr]
          refine ⟨big_ok (by simp), .inl ?_⟩
          rw [put_put]
          exact k _ vs m2 ⟨_, rfl, .two h hf hg⟩ (hv.mono (by omega)) m02 m12
      have hv : v ∈ ([.str "leaf", .str "leaf", .str "both", .str "either", .str "less", .str "closure", .str "inner", .str "rim"] : List PyData) := hv
      simp only [List.mem_cons, List.not_mem_nil, or_false] at hv
      rcases hv with rfl | rfl | rfl | rfl | rfl | rfl | rfl | rfl
      · exact ⟨_, rfl, leaf _ _ _ _ zs 1 hz (by omega)⟩
      · exact ⟨_, rfl, leaf _ _ _ _ zs 1 hz (by omega)⟩
      · exact ⟨_, rfl, first "both" (.inr (by decide))⟩
      · exact ⟨_, rfl, first "either" (.inr (by decide))⟩
      · exact ⟨_, rfl, first "less" (.inr (by decide))⟩
      · exact ⟨_, rfl, first "closure" (.inl (by decide))⟩
      · exact ⟨_, rfl, first "inner" (.inl (by decide))⟩
      · exact ⟨_, rfl, first "rim" (.inl (by decide))⟩
end K12
namespace K12
open PySem PySem.Spec PyProof.Rows L2 DL LB
theorem str_of {v : PyData} {ws : List Str} (h : v ∈ ws.map PyData.str) : ∃ w, v = .str w ∧ w ∈ ws := by
  obtain ⟨w, h1, h2⟩ := List.mem_map.mp h
  exact ⟨w, h2.symm, h1⟩
theorem r_line : ∀ ds st Q, sp_line ds st Q → b_line { nx := fun _ s' => Q (.d .none) s', rt := Q } (startD N_line ds) st := by
  intro ds st Q h
  unfold sp_line at h
  split at h
  · rename_i p x y s u w
    obtain ⟨F, n, ys, hst, hy, hn, k⟩ := h
    show b_line _ [some (.own p), some (.d (frP x y s u w)), none] st
    refine ⟨_, rfl, big_ok (by decide), one_tup hst hy (by omega) (by decide) (by decide) fun v zs hv hz => .inl ?_⟩
    have hm : ∃ m : Int, v = .int m ∧ 1 ≤ m ∧ m ≤ 13 := by
      have hv : v ∈ ([.int 1, .int 2, .int 3, .int 7, .int 11, .int 12, .int 13] : List PyData) := hv
      simp only [List.mem_cons, List.not_mem_nil, or_false] at hv
      rcases hv with rfl | rfl | rfl | rfl | rfl | rfl | rfl <;> exact ⟨_, rfl, by decide, by decide⟩
    obtain ⟨m, rfl, m0, m1⟩ := hm
    show b_line_2 _ [some (.own p), some (.d (frP x y s u w)), some (I m)] _
    refine ⟨_, rfl, big_ok (by decide), one_tup put_same hz (by omega) (by decide) (by decide) fun v zs hv hz => ?_⟩
    rw [put_put]
    obtain ⟨w2, rfl, hw2⟩ := str_of (ws := ["path", "area"]) hv
    refine ⟨_, rfl, _, rfl, _, rfl, _, rfl, draw_ put_same hz (by omega) (by decide) (by decide) fun t zs _ _ hz => ?_⟩
    rw [put_put]
    refine ⟨F, by omega, by omega, n + 1 + 1 + 1, zs, put_same, hz, by omega, ?_⟩
    rintro _ us ⟨ps, rfl, hl, hg, _⟩ hu
    rw [put_put]
    refine ⟨big_ok (by simp), .inl ?_⟩
    refine k _ us ⟨_, rfl, .line ?_ ⟨hg, by omega⟩⟩ (hu.mono (by omega))
    simpa using hw2
  · exact h.elim
theorem r_wide : ∀ ds st Q, sp_wide ds st Q → b_wide { nx := fun _ s' => Q (.d .none) s', rt := Q } (startD N_wide ds) st := by
  intro ds st Q h
  unfold sp_wide at h
  split at h
  · rename_i p x y s u w
    obtain ⟨F, n, ys, hst, hy, hn, k⟩ := h
    show b_wide _ [some (.own p), some (.d (frP x y s u w)), none, none, none, none] st
    refine ⟨_, rfl, _, rfl, F, by decide, by decide, n, ys, hst, hy, by omega, ?_⟩
    rintro _ zs ⟨p1, rfl, l1, g1, _⟩ hz
    refine ⟨big_ok (by simp), .inl ?_⟩
    show dSeq b_wide_2 _ _ [some (.own p), some (.d (frP x y s u w)), some (.d (.tuple [.str "area", .tuple (p1.map Pt.py)])), none, none, none] _
    refine ⟨_, rfl, _, rfl, _, rfl, draw_ put_same hz (by omega) (by decide) (by decide) fun t zs t0 t1 hz => ?_⟩
    rw [put_put]
    refine ⟨F, by omega, by omega, n + 20 + 1, zs, put_same, hz, by omega, ?_⟩
    rintro _ zs ⟨p2, rfl, l2, g2, _⟩ hz
    rw [put_put]
    refine ⟨big_ok (by simp), .inl ?_⟩
    show dSeq b_wide_3 _ _ [some (.own p), some (.d (frP x y s u w)), some (.d (.tuple [.str "area", .tuple (p1.map Pt.py)])), some (.d (.tuple [.str "area", .tuple (p2.map Pt.py)])), none, none] _
    refine ⟨_, rfl, _, rfl, _, rfl, draw_ put_same hz (by omega) (by decide) (by decide) fun t' zs t0' t1' hz => ?_⟩
    rw [put_put]
    refine ⟨F, by omega, by omega, n + 20 + 1 + 20 + 1, zs, put_same, hz, by omega, ?_⟩
    rintro _ zs ⟨p3, rfl, l3, g3, _⟩ hz
    rw [put_put]
    refine ⟨big_ok (by simp), .inl ?_⟩
    show dSeq b_wide_4 _ _ [some (.own p), some (.d (frP x y s u w)), some (.d (.tuple [.str "area", .tuple (p1.map Pt.py)])), some (.d (.tuple [.str "area", .tuple (p2.map Pt.py)])), some (.d (.tuple [.str "path", .tuple (p3.map Pt.py)])), none] _
    refine ⟨_, rfl, big_ok (by decide), one_tup put_same hz (by omega) (by decide) (by decide) fun v zs hv hz => .inl ?_⟩
    rw [put_put]
    obtain ⟨w2, rfl, hw2⟩ := str_of (ws := ["either", "less", "both"]) hv
    have hw3 : w2 ∈ pairW := by
      simp only [pairW, List.mem_cons, List.not_mem_nil, or_false] at hw2 ⊢
      rcases hw2 with h | h | h <;> simp [h]
    have f1 : ∀ m, Fg (m + 1) (.tuple [.str "area", .tuple (p1.map Pt.py)]) := fun m => .line (.inr rfl) ⟨g1, by rw [l1]; decide⟩
    have f2 : ∀ m, Fg (m + 1) (.tuple [.str "area", .tuple (p2.map Pt.py)]) := fun m => .line (.inr rfl) ⟨g2, by omega⟩
    have f3 : ∀ m, Fg (m + 1) (.tuple [.str "path", .tuple (p3.map Pt.py)]) := fun m => .line (.inl rfl) ⟨g3, by omega⟩
    show b_wide_5 _ [some (.own p), some (.d (frP x y s u w)), some (.d (.tuple [.str "area", .tuple (p1.map Pt.py)])), some (.d (.tuple [.str "area", .tuple (p2.map Pt.py)])), some (.d (.tuple [.str "path", .tuple (p3.map Pt.py)])), some (.d (.str w2))] _
    refine ⟨_, rfl, _, rfl, _, rfl, _, rfl, _, rfl, _, rfl, big_ok (by simp), big_ok (by simp), _, rfl, _, rfl, _, rfl, _, rfl, big_ok (by simp), big_ok (by simp), _, rfl, big_ok (by simp), big_ok (by simp), ?_⟩
    refine one_tup put_same hz (by omega) (by simp) (by simp) fun v zs hv hz => ?_
    rw [put_put]
    simp only [List.mem_cons, List.not_mem_nil, or_false] at hv
    rcases hv with rfl | rfl
    · exact .inl (k _ zs ⟨_, rfl, .two hw3 (f1 _) (.two hw3 (f2 1) (f3 1))⟩ (hz.mono (by omega)))
    · exact .inl (k _ zs ⟨_, rfl, .two hw3 (.one (by decide) (.two hw3 (f3 0) (f1 0))) (f2 _)⟩ (hz.mono (by omega)))
  · exact h.elim
end K12
namespace K12
open PySem PySem.Spec PyProof.Rows L2 DL LB
theorem ext_leaf {st s' : Sto} {p q : Addr} {zs : List D} (hp : s' p = some zs) (hs : Sub (put st p zs) s') (hq : s' q = none) (zs' b c : List D) : Sub (put st p zs') (put (put (put s' q b) p zs') q c) ∧ (put (put (put s' q b) p zs') q c) p = some zs' := by
  have ne : p ≠ q := fun e => by
    rw [e, hq] at hp
    cases hp
  refine ⟨fun a => ?_, by rw [put_ne ne, put_same]⟩
  by_cases e1 : a = q
  · right
    rw [e1, put_ne ne.symm]
    rcases hs q with h | h
    · rw [hq, put_ne ne.symm] at h
      exact h
    · rw [put_ne ne.symm] at h
      exact h
  · rw [put_ne e1]
    by_cases e2 : a = p
    · left
      rw [e2, put_same, put_same]
    · rw [put_ne e2, put_ne e2, put_ne e1]
      have := hs a
      rw [put_ne e2] at this
      exact this
theorem ext_draw {st s' : Sto} {p : Addr} {zs : List D} (hs : Sub (put st p zs) s') (zs' : List D) : Sub (put st p zs') (put s' p zs') := fun a => by
  by_cases e2 : a = p
  · left
    rw [e2, put_same, put_same]
  · rw [put_ne e2, put_ne e2]
    have := hs a
    rw [put_ne e2] at this
    exact this
/-- a leaf with a list of its own -/
theorem leaf_own {st s' : Sto} {p q : Addr} {zs : List D} {x y s u w m : Int} {a : Nat} {Q : Kd} (F : FrOk x y s u w) (hp : s' p = some zs) (hz : SprL zs a) (ha : a + 30 < 2 ^ 40) (hs : Sub (put st p zs) s') (hq : s' q = none) (m0 : 0 ≤ m) (m1 : m ≤ 10)
    (k : ∀ f ws s2, Fg 1 f → SprL ws (a + 30) → s2 p = some ws → Sub (put st p ws) s2 → Q (.d f) s2) : sp_leaf [.own p, .d (frP x y s u w), .own q] (put s' q [I m]) Q := by
  have ne : p ≠ q := fun e => by
    rw [e, hq] at hp
    cases hp
  refine ⟨F, a, zs, m, by rw [put_ne ne]; exact hp, hz, ha, ne, put_same, m0, m1, ?_⟩
  rintro _ ws m' ⟨f, rfl, hf⟩ hw _ _
  obtain ⟨h1, h2⟩ := ext_leaf hp hs hq ws [I m] [I m']
  exact k f ws _ hf hw h2 h1
theorem r_wrapped : ∀ ds st Q, sp_wrapped ds st Q → b_wrapped { nx := fun _ s' => RQ Q (.d .none) s', rt := RQ Q } (startD N_wrapped ds) st := by
  intro ds st Q h
  unfold sp_wrapped at h
  split at h
  · rename_i p x y s u w
    obtain ⟨F, n, ys, hst, hy, hn, k⟩ := h
    show b_wrapped _ [some (.own p), some (.d (frP x y s u w)), none, none, none, none] st
    have s0 : Sub (put st p ys) st := fun a => by
      by_cases e : a = p
      · left
        rw [e, put_same, hst]
      · left
        rw [put_ne e]
    refine ⟨_, rfl, _, rfl, big_ok (by decide), .inr fun q hq => leaf_own F hst hy (by omega) s0 hq (by decide) (by decide) fun f zs s1 hf hz h1 hs1 => .inl ?_⟩
    show dSeq b_wrapped_2 _ _ [some (.own p), some (.d (frP x y s u w)), some (.d f), none, none, none] s1
    refine ⟨_, rfl, draw_ h1 hz (by omega) (by decide) (by decide) fun t zs t0 t1 hz => ⟨by omega, by omega, ?_⟩⟩
    have lenX : ((List.range (4 + t).toNat).map fun (i : Nat) => D.d (.int (0 + i))).length = (4 + t).toNat := by rw [List.length_map, List.length_range]
    refine ⟨fun i e' s' => ∃ f zs o3 o4 o5, e' = [some (.own p), some (.d (frP x y s u w)), some (.d f), o3, o4, o5] ∧ Fg (i + 1) f ∧ s' p = some zs ∧ SprL zs (n + 31 + 32 * i) ∧ Sub (put st p zs) s' ∧ i ≤ 7,
      ⟨f, zs, none, none, none, rfl, hf, put_same, hz, ext_draw hs1 zs, by omega⟩, ?_⟩
    rintro i e' s' ⟨f, zs, o3, o4, o5, rfl, hf, hp, hz, hsub, hi⟩
    refine ⟨(fun a ds z => nomatch z), (fun _ => ?_), fun d hd => ?_⟩
    · exact ⟨_, rfl, .inl ⟨put st p zs, hsub, k _ zs ⟨f, rfl, hf.mono (by omega)⟩ (hz.mono (by omega))⟩⟩
    · have hi' : i < (4 + t).toNat := by
        rw [← lenX]
        exact (List.getElem?_eq_some_iff.mp hd).1
      refine ⟨_, rfl, big_ok (by decide), one_tup hp hz (by omega) (by decide) (by decide) fun v zs1 hv hz1 => .inl ?_⟩
      obtain ⟨w2, rfl, hw2⟩ := str_of (ws := ["closure", "inner", "rim", "both", "either", "less"]) hv
      have hd1 := ext_draw hsub zs1
      refine ⟨_, rfl, big_ok (by decide), rin_strs (ws := nearW) ?_⟩
      show if (false != nearW.contains w2) = true then _ else _
      by_cases hn2 : w2 ∈ nearW
      · have e : nearW.contains w2 = true := by simpa using hn2
        rw [e, if_pos (by decide)]
        exact ⟨_, rfl, _, rfl, big_ok (by simp), .inl ⟨_, zs1, _, _, _, rfl, .one hn2 hf, put_same, hz1.mono (by omega), hd1, by omega⟩⟩
      · have e : nearW.contains w2 = false := by simpa using hn2
        have hw3 : w2 ∈ pairW := by
          simp only [pairW, nearW, List.mem_cons, List.not_mem_nil, or_false, not_or] at hw2 hn2 ⊢
          rcases hw2 with h | h | h | h | h | h
          · exact absurd h hn2.1
          · exact absurd h hn2.2.1
          · exact absurd h hn2.2.2
          · simp [h]
          · simp [h]
          · simp [h]
        rw [e, if_neg (by decide)]
        refine ⟨_, rfl, _, rfl, big_ok (by decide), .inr fun q hq => leaf_own F put_same hz1 (by omega) hd1 hq (by decide) (by decide) fun g zs2 s2 hg hz2 h2 hs2 => .inl ?_⟩
        refine ⟨_, rfl, draw_ h2 hz2 (by omega) (by decide) (by decide) fun t2 zs3 _ _ hz3 => ?_⟩
        have hd3 := ext_draw hs2 zs3
        show if decide (t2 = 0) = true then _ else _
        have bz : SprL zs3 (n + 31 + 32 * (i + 1)) := hz3.mono (by omega)
        split
        · exact ⟨_, rfl, _, rfl, _, rfl, big_ok (by simp), .inl ⟨_, zs3, _, _, _, rfl, .two hw3 hf (hg.mono (by omega)), put_same, bz, hd3, by omega⟩⟩
        · exact ⟨_, rfl, _, rfl, _, rfl, big_ok (by simp), .inl ⟨_, zs3, _, _, _, rfl, .two hw3 (hg.mono (by omega)) hf, put_same, bz, hd3, by omega⟩⟩
  · exact h.elim
end K12
local macro_rules | `(tactic| walk_at "val") => `(tactic| repeat' (first | exact DL.vls_nil | apply DL.vls_cons | exact DL.val_c | exact DL.val_dict | exact DL.val_neg | exact DL.val_var rfl | apply DL.val_tup | apply DL.val_lst | apply DL.val_lstV | exact DL.val_pow ⟨by decide, by decide, by decide⟩ | decide))
local macro_rules | `(tactic| walk_at "st") => `(tactic| simp only [DL.startD, List.map_cons, List.map_nil, List.length_cons, List.length_nil, Nat.reduceAdd, Nat.reduceSub, List.replicate_succ, List.replicate_zero, List.cons_append, List.nil_append, List.append_nil, Nat.sub_self, Nat.zero_add])
local macro_rules | `(tactic| walk_at "go") => `(tactic| simp only [↓DL.dSeq, ↓DL.dNext, ↓DL.dAsg, ↓DL.dRet, ↓DL.dRetN, ↓DL.dIfS, ↓DL.dDrop, ↓DL.dBin, ↓DL.dCons, ↓DL.dNil, ↓DL.dTup, ↓DL.dC, ↓DL.dNeg, ↓DL.dAnd, ↓DL.dOr, ↓DL.dNot, ↓DL.dIf, ↓DL.dTst, ↓DL.asB, ↓DL.dChain, ↓DL.dAndT, ↓DL.dOrT, ↓DL.dNotT, ↓DL.dCall, ↓DL.dFn0, ↓DL.dFnK, ↓DL.dIs, ↓DL.dSl, ↓DL.dNoP, ↓DL.dPart, ↓DL.dRev, ↓DL.dLst, ↓DL.dLstV, ↓DL.cListV, ↓DL.dDict, ↓DL.dPar, ↓DL.dPar3, ↓DL.hTup, ↓DL.hCons, ↓DL.nil_go, ↓DL.hName, ↓DL.hSub, ↓DL.rI2, ↓DL.rSubD, ↓DL.rMulD, ↓DL.rMulX, ↓DL.rDivF, ↓DL.rDivD, ↓DL.rModD, ↓DL.rPowD, ↓DL.rLtD, ↓DL.rLeD, ↓DL.rGtD, ↓DL.rGeD, ↓DL.rAddD, ↓DL.ixt_0, ↓DL.ixt_1, ↓DL.ixt_2, ↓DL.ixt_3, ↓DL.ixt_4, ↓DL.ixl_0, ↓DL.ixl_1, ↓DL.ixl_2, ↓DL.ixl_3, ↓DL.ixl_4, ↓DL.rEqV, ↓DL.rNeV, ↓DL.rSlD, ↓DL.cLen, ↓DL.cAbs, ↓DL.cInt, ↓DL.cStrI, ↓DL.cDivmod, ↓DL.cMin, ↓DL.cMax, ↓DL.cGcd, ↓DL.cLcm, ↓DL.cAll, ↓DL.cRepr, ↓DL.cList, ↓DL.cTuple, ↓DL.rC1, ↓DL.rC2, ↓DL.dNever, ↓DL.dIter, ↓DL.dRng1, ↓DL.dRng2, ↓DL.dYes,
  ↓DL.frz_d, ↓DL.var_zero, ↓DL.var_succ, ↓DL.var_set, ↓DL.var_ne, DL.own_some, DL.no_own2, DL.eqv_int, DL.sh_int, DL.sh_bool, DL.kit_int, DL.kit_bool, DL.kit_tuple, DL.kit_str, DL.is_int, DL.is_bool, DL.is_tuple, DL.is_str, DL.pures_nil, DL.pures_cons, Option.map_some, List.length_cons, List.length_nil, List.length_set, List.map_cons, List.map_nil, DL.pick, List.filterMap_cons, List.filterMap_nil,
  true_and, and_true, ite_true, ite_false, if_true, if_false, reduceIte, reduceCtorEq, ne_eq, not_false_eq_true, Nat.reduceAdd, Nat.reduceLT, Nat.reduceEqDiff, decide_eq_true_eq, Bool.not_true, Bool.not_false, Bool.false_eq_true, eq_self])
local macro_rules | `(tactic| walk_at "gk") => `(tactic| simp only [↓LB.sp_divisor, ↓LB.sp_part, ↓LB.sp_place, ↓LB.sp_is_whole, ↓LB.sp_l_is_whole, ↓LB.sp_is_row, ↓LB.sp_is_lot, ↓LB.sp_is_fraction, ↓LB.sp_l_is_fraction, ↓LB.sp_is_place, ↓LB.sp_is_point, ↓LB.sp_is_told, ↓LB.sp_told, ↓LB.sp_own, ↓LB.sp_side, ↓LB.sp_l_is_less, ↓LB.sp_l_lies_on, ↓LB.sp_l_sign, ↓LB.sp_sign, ↓LB.sp_scaled, ↓LB.sp_crossed, ↓LB.sp_along, ↓LB.sp_is_less, ↓DL.dSeq, ↓DL.dNext, ↓DL.dAsg, ↓DL.dRet, ↓DL.dRetN, ↓DL.dIfS, ↓DL.dDrop, ↓DL.dBin, ↓DL.dCons, ↓DL.dNil, ↓DL.dTup, ↓DL.dC, ↓DL.dNeg, ↓DL.dAnd, ↓DL.dOr, ↓DL.dNot, ↓DL.dIf, ↓DL.dTst, ↓DL.asB, ↓DL.dChain, ↓DL.dAndT, ↓DL.dOrT, ↓DL.dNotT, ↓DL.dCall, ↓DL.dFn0, ↓DL.dFnK, ↓DL.dIs, ↓DL.dSl, ↓DL.dNoP, ↓DL.dPart, ↓DL.dRev, ↓DL.dLst, ↓DL.dLstV, ↓DL.cListV, ↓DL.dDict, ↓DL.dPar, ↓DL.dPar3, ↓DL.hTup, ↓DL.hCons, ↓DL.nil_go, ↓DL.hName, ↓DL.hSub, ↓DL.rI2, ↓DL.rSubD, ↓DL.rMulD, ↓DL.rMulX, ↓DL.rDivF, ↓DL.rDivD, ↓DL.rModD, ↓DL.rPowD, ↓DL.rLtD, ↓DL.rLeD, ↓DL.rGtD, ↓DL.rGeD, ↓DL.rAddD, ↓DL.ixt_0, ↓DL.ixt_1, ↓DL.ixt_2, ↓DL.ixt_3, ↓DL.ixt_4, ↓DL.ixl_0, ↓DL.ixl_1, ↓DL.ixl_2, ↓DL.ixl_3, ↓DL.ixl_4, ↓DL.rEqV, ↓DL.rNeV, ↓DL.rSlD, ↓DL.cLen, ↓DL.cAbs, ↓DL.cInt, ↓DL.cStrI, ↓DL.cDivmod, ↓DL.cMin, ↓DL.cMax, ↓DL.cGcd, ↓DL.cLcm, ↓DL.cAll, ↓DL.cRepr, ↓DL.cList, ↓DL.cTuple, ↓DL.rC1, ↓DL.rC2, ↓DL.dNever, ↓DL.dIter, ↓DL.dRng1, ↓DL.dRng2, ↓DL.dYes,
  ↓DL.frz_d, ↓DL.var_zero, ↓DL.var_succ, ↓DL.var_set, ↓DL.var_ne, DL.own_some, DL.no_own2, DL.eqv_int, DL.sh_int, DL.sh_bool, DL.kit_int, DL.kit_bool, DL.kit_tuple, DL.kit_str, DL.is_int, DL.is_bool, DL.is_tuple, DL.is_str, DL.pures_nil, DL.pures_cons, Option.map_some, List.length_cons, List.length_nil, List.length_set, List.map_cons, List.map_nil, DL.pick, List.filterMap_cons, List.filterMap_nil,
  true_and, and_true, ite_true, ite_false, if_true, if_false, reduceIte, reduceCtorEq, ne_eq, not_false_eq_true, Nat.reduceAdd, Nat.reduceLT, Nat.reduceEqDiff, decide_eq_true_eq, Bool.not_true, Bool.not_false, Bool.false_eq_true, eq_self])
namespace K12
open PySem PySem.Spec PyProof.Rows L2 DL LB
def nstB : Nat → PyData → Bool
  | 0, x => match x with
    | .tuple _ => false
    | _ => true
  | n + 1, x => match x with
    | .tuple xs => xs.all (nstB n)
    | _ => true
theorem nst_of : ∀ {n : Nat} {x : PyData}, nstB n x = true → Nst n x := by
  intro n
  induction n with
  | zero =>
    intro x h xs z
    subst z
    simp [nstB] at h
  | succ n ih =>
    intro x h
    cases x with
    | tuple xs =>
      intro y hy
      exact ih (List.all_eq_true.mp h y hy)
    | _ => trivial
def atom : PyData → Bool
  | .tuple _ => false
  | _ => true
theorem nst_atom {n : Nat} {x : PyData} (h : atom x = true) : Nst n x := by
  cases n with
  | zero =>
    intro xs z
    rw [z] at h
    cases h
  | succ n =>
    cases x with
    | tuple xs => cases h
    | _ => trivial
/-! ### values, and how deep -/
def VN (n : Nat) (te : TEd) (e : Ed) : Prop := ∃ x, Nst n x ∧ ∀ st Q, Q (.d x) st → te e st Q
def VNs (n : Nat) (t : TAd) (e : Ed) (m : Nat) : Prop := ∃ xs : List PyData, xs.length = m ∧ (∀ x ∈ xs, Nst n x) ∧ ∀ st Q, Q (xs.map D.d) st → t e st Q
theorem vn_c {n : Nat} {x : PyData} {e : Ed} (h : Nst n x) : VN n (dC x) e := ⟨x, h, fun _ _ q => q⟩
theorem vn_dict {n : Nat} {ps : List (PyData × PyData)} {e : Ed} : VN n (dDict ps) e := ⟨.dict ps, nst_atom rfl, fun _ _ q => q⟩
theorem vn_var {n i : Nat} {x : PyData} {e : Ed} (h : e[i]? = some (some (.d x))) (hn : Nst n x) : VN n (dVar i) e := ⟨x, hn, fun _ _ q => ⟨_, h, q⟩⟩
theorem vn_neg {n : Nat} {i : Int} {e : Ed} : VN n (dNeg (dC (.int i))) e := ⟨.int (-i), nst_atom rfl, fun _ _ q => q⟩
theorem vn_pow {n : Nat} {i j : Int} {e : Ed} (h : CPow i j) : VN n (dBin rPowD (dC (.int i)) (dC (.int j))) e := ⟨.int (i ^ j.toNat), nst_atom rfl, fun _ _ q => ⟨h, q⟩⟩
theorem vns_nil {n : Nat} {e : Ed} : VNs n dNil e 0 := ⟨[], rfl, (fun _ h => nomatch h), fun _ _ q => q⟩
theorem vns_cons {k : Nat} {te : TEd} {t : TAd} {e : Ed} {n : Nat} (h : VN k te e) (r : VNs k t e n) : VNs k (dCons te t) e (n + 1) := by
  obtain ⟨x, nx, hx⟩ := h
  obtain ⟨xs, hl, nl, hr⟩ := r
  refine ⟨x :: xs, by rw [List.length_cons, hl], fun y hy => ?_, fun st Q q => hx _ _ (hr _ _ q)⟩
  rcases List.mem_cons.mp hy with rfl | hy
  · exact nx
  · exact nl y hy
theorem vn_tup {k : Nat} {t : TAd} {e : Ed} {n : Nat} (r : VNs k t e n) (hn : n ≤ 1000) : VN (k + 1) (dTup t) e := by
  obtain ⟨xs, hl, nl, hr⟩ := r
  refine ⟨.tuple xs, nl, fun st Q q => hr _ _ ?_⟩
  show match pures (xs.map D.d) with
    | some ys => (xs.map D.d).length ≤ sizeLine ∧ Q (.d (.tuple ys)) st
    | none => False
  rw [pures_map]
  exact ⟨by rw [List.length_map, hl]; exact Nat.le_trans hn (by decide), q⟩
theorem vn_lstV {k : Nat} {t : TAd} {e : Ed} {n : Nat} (r : VNs k t e n) (hn : n ≤ 1000) : VN k (dLstV t) e := by
  obtain ⟨xs, hl, nl, hr⟩ := r
  refine ⟨.list xs, nst_atom rfl, fun st Q q => hr _ _ ?_⟩
  show match pures (xs.map D.d) with
    | some ys => (xs.map D.d).length ≤ sizeLine ∧ Q (.d (.list ys)) st
    | none => False
  rw [pures_map]
  exact ⟨by rw [List.length_map, hl]; exact Nat.le_trans hn (by decide), q⟩
theorem lstV_thenN {k : Nat} {t : TAd} {e : Ed} {st : Sto} {Q : Kd} {n : Nat} (r : VNs k t e n) (hn : n ≤ 1000) (h : ∀ xs : List PyData, xs.length = n → (∀ x ∈ xs, Nst k x) → Q (.d (.list xs)) st) : dLstV t e st Q := by
  obtain ⟨xs, hl, nl, hr⟩ := r
  refine hr _ _ ?_
  show match pures (xs.map D.d) with
    | some ys => (xs.map D.d).length ≤ sizeLine ∧ Q (.d (.list ys)) st
    | none => False
  rw [pures_map]
  exact ⟨by rw [List.length_map, hl]; exact Nat.le_trans hn (by decide), h xs hl nl⟩
theorem r_odd : ∀ ds st Q, sp_odd ds st Q → b_odd { nx := fun _ s' => Q (.d .none) s', rt := Q } (startD N_odd ds) st := by
  intro ds st Q h
  unfold sp_odd at h
  split at h
  · rename_i p
    obtain ⟨n, ys, hst, hy, hn, k⟩ := h
    refine ⟨by decide, by decide, by decide, by decide, by decide, by decide, by decide, by decide, by decide, by decide, .inl ⟨rfl, rfl, ?_⟩⟩
    dsimp only
    simp only [↓dSeq, ↓dAsg]
    apply lstV_thenN (k := 5)
    · repeat' (first | exact vns_nil | apply vns_cons | exact vn_c (nst_atom rfl) | exact vn_dict | exact vn_neg | exact vn_var rfl (nst_of (by rfl)) | apply vn_tup | apply vn_lstV | exact vn_pow ⟨by decide, by decide, by decide⟩ | decide)
    · decide
    · intro xs hl hx
      refine Or.inl ⟨_, rfl, _, rfl, ?_, ?_, n, ys, hst, hy, hn, fun d ys' hd hy' => .inl (k d ys' (let ⟨x, e, hm⟩ := hd; ⟨x, e, hx x hm⟩) hy')⟩
      · rw [hl]
        decide
      · rw [hl]
        decide
  · exact h.elim
theorem cutP_mem {α : Type} {xs : List α} {lo hi : Option Int} {y : α} (h : y ∈ cutP xs lo hi) : y ∈ xs := by
  unfold cutP at h
  exact List.mem_of_mem_drop (List.mem_of_mem_take h)
theorem r_bent (k : Nat) (self : SpD) (hs : ∀ j, k = j + 1 → ∀ ds st Q, sp_bentK j ds st Q → self ds st Q) : ∀ ds st Q, sp_bentK k ds st Q → b_bent self { nx := fun _ s' => Q (.d .none) s', rt := Q } (startD N_bent ds) st := by
  intro ds st Q h
  unfold sp_bentK at h
  split at h
  · rename_i p x
    obtain ⟨hx, hN, n, ys, hst, hy, hn, kk⟩ := h
    show b_bent self _ [some (.own p), some (.d x), none, none] st
    -- what follows a draw from nine
    have rest : ∀ (ys : List D) (st : Sto), st p = some ys → SprL ys (n + 2 * k) → (∀ d xs', (∃ x, d = D.d x ∧ Nst (k + 5) x) → SprL xs' (n + (2 * k + 2)) → Q d (put st p xs')) →
        (dSeq (b_bent_2 self) (dSeq (b_bent_3 self) (dSeq (b_bent_4 self) (b_bent_5 self)))) { nx := fun _ s' => Q (.d .none) s', rt := Q } [some (.own p), some (.d x), none, none] st := by
      intro ys st hst hy kk
      refine ⟨_, rfl, by decide, by decide, n + 2 * k, ys, hst, hy, by omega, ?_⟩
      rintro _ zs ⟨i, rfl, i0, i1⟩ hz
      refine .inl ?_
      have kk1 : ∀ x, Nst (k + 5) x → Q (.d x) (put st p zs) := fun x nx => by
        have := kk (.d x) zs ⟨x, rfl, nx⟩ (hz.mono (by omega))
        exact this
      have last : (b_bent_5 self) { nx := fun _ s' => Q (.d .none) s', rt := Q } [some (.own p), some (.d x), none, some (I i)] (put st p zs) := by
        refine ⟨_, rfl, n + 2 * k + 1, zs, put_same, hz, by omega, ?_⟩
        rintro _ ws ⟨w, rfl, nw⟩ hw
        rw [put_put]
        exact .inl (kk _ ws ⟨w, rfl, nw.mono (by omega)⟩ hw)
      have four : (∀ xs, x ≠ .tuple xs) → (dSeq (b_bent_4 self) (b_bent_5 self)) { nx := fun _ s' => Q (.d .none) s', rt := Q } [some (.own p), some (.d x), none, some (I i)] (put st p zs) := by
        intro nt
        cases x with
        | int v =>
          unfold b_bent_4
          walk_at "go"
          have bv : B 1000 v := by
            cases k <;> exact hx
          split
          · refine ⟨mulW (a := 20) (b := 1000) (by unfold B; decide) bv (by decide) (by decide) (by decide), ?_, ?_, ?_⟩
            · have := PySem.Flt.log2_lt_of (by decide : 0 < 1000) bv
              omega
            · exact big_ok (by decide)
            · obtain ⟨z, hz1, hz2⟩ := at_small (xs := [PyData.int (v + 1), .int (0 - v), .int (2 * v), .int (v - 2), .bool (decide (v = 1)), .str (toString v : String)]) i0 (by simpa using (by omega))
              exact ⟨z, hz2, .inl (kk1 z (by
                simp only [List.mem_cons, List.not_mem_nil, or_false] at hz1
                rcases hz1 with rfl | rfl | rfl | rfl | rfl | rfl <;> exact nst_atom rfl))⟩
          · exact last
        | tuple xs => exact absurd rfl (nt xs)
        | bool b => exact absurd hx (by cases k <;> exact id)
        | _ =>
          unfold b_bent_4
          walk_at "go"
          exact last
      cases x with
      | tuple xs =>
        have hl : xs.length ≤ 1000 := by
          cases k with
          | zero => exact hx.elim
          | succ k => exact hx.1
        unfold b_bent_3 b_bent_4
        walk_at "go"
        split
        · have c1 := cutP_len xs (some (-1)) none
          have c2 := cutP_len xs none (some 1)
          refine ⟨big_ok (by omega), big_ok (by omega), big_ok (by decide), big_ok (by decide), ?_⟩
          obtain ⟨z, hz1, hz2⟩ := at_small (xs := [PyData.list xs, .tuple (cutP xs none (some (-1))), .tuple (xs ++ cutP xs (some (-1)) none), .tuple xs.reverse, .tuple (cutP xs (some 1) none), .tuple (cutP xs none (some 1) ++ xs), .tuple [.tuple xs]]) i0 (by simpa using (by omega))
          refine ⟨z, hz2, .inl (kk1 z ?_)⟩
          obtain ⟨j, rfl, hel⟩ := nst_tup hN
          have sub : ∀ zs : List PyData, (∀ y ∈ zs, y ∈ xs) → Nst (j + 1 + 5) (.tuple zs) := fun zs h y hy => (hel y (h y hy)).mono (by omega)
          simp only [List.mem_cons, List.not_mem_nil, or_false] at hz1
          rcases hz1 with rfl | rfl | rfl | rfl | rfl | rfl | rfl
          · exact nst_atom rfl
          · exact sub _ fun y hy => cutP_mem hy
          · exact sub _ fun y hy => (List.mem_append.mp hy).elim id cutP_mem
          · exact sub _ fun y hy => List.mem_reverse.mp hy
          · exact sub _ fun y hy => cutP_mem hy
          · exact sub _ fun y hy => (List.mem_append.mp hy).elim cutP_mem id
          · intro y hy
            rw [List.mem_singleton.mp hy]
            exact Nst.mono (n := j + 1) hel (by omega)
        · exact last
      | _ =>
        unfold b_bent_3
        walk_at "go"
        exact four (fun _ => (nomatch ·))
    have go2 : ∀ (ys : List D) (st' : Sto), (∀ d xs', (∃ x, d = D.d x ∧ Nst (k + 5) x) → SprL xs' (n + (2 * k + 2)) → Q d (put st' p xs')) → st' p = some ys → SprL ys (n + 2 * k) →
        (dSeq (b_bent_2 self) (dSeq (b_bent_3 self) (dSeq (b_bent_4 self) (b_bent_5 self)))) { nx := fun _ s' => Q (.d .none) s', rt := Q } [some (.own p), some (.d x), none, none] st' := fun ys st' kk hst hy => rest ys st' hst hy kk
    have skip := go2 ys st (fun d xs' hd h => kk d xs' hd h) hst (hy.mono (by omega))
    cases x with
    | tuple xs =>
      obtain ⟨j, rfl⟩ : ∃ j, k = j + 1 := by
        cases k with
        | zero => exact hx.elim
        | succ j => exact ⟨j, rfl⟩
      obtain ⟨hl, hsh, hpl⟩ := hx
      refine is_then kt rfl ?_
      rw [is_tuple]
      refine ⟨_, rfl, big_ok (by decide), hsh, by simp [SeqAt.shaped, PyData.canLay0, PyData.canLayAll0, PyData.depth, PyData.depthAll], ?_⟩
      cases xs with
      | nil => exact skip
      | cons x0 xs =>
        refine ⟨_, rfl, by decide, by decide, n, ys, hst, hy, by omega, ?_⟩
        rintro _ zs ⟨i, rfl, i0, i1⟩ hz
        refine ⟨trivial, ?_⟩
        show if decide (0 < i) = true then _ else _
        by_cases hi : 0 < i
        · rw [if_pos (decide_eq_true hi)]
          have hlen : (0 : Int) < ((x0 :: xs).length : Nat) := by
            rw [List.length_cons]
            omega
          refine ⟨_, rfl, _, rfl, hlen, by omega, n + 1, zs, put_same, hz, by omega, ?_⟩
          rintro _ ws ⟨a, rfl, a0, a1⟩ hw
          rw [put_put]
          refine .inl ⟨_, rfl, _, rfl, _, rfl, _, rfl, _, rfl, ?_⟩
          obtain ⟨y, y1, y2⟩ := at_small (xs := x0 :: xs) a0 a1
          obtain ⟨j', ej, hel⟩ := nst_tup hN
          cases ej
          refine ⟨y, y2, hs j rfl _ _ _ ⟨hpl y y1, hel y y1, n + 2, ws, put_same, hw, by omega, ?_⟩⟩
          rintro _ vs ⟨z, rfl, nz⟩ hv
          rw [put_put]
          have c1 := cutP_len (x0 :: xs) none (some a)
          have c2 := cutP_len (x0 :: xs) (some (a + 1)) none
          refine ⟨big_ok (by show 1 ≤ 3000; omega), big_ok (by simp only [List.length_cons, List.length_nil] at *; omega), _, rfl, _, rfl, big_ok (by simp only [List.length_cons, List.length_nil, List.length_append] at *; omega), .inl ?_⟩
          refine kk _ vs ⟨_, rfl, fun w hw => ?_⟩ (hv.mono (by omega))
          rcases List.mem_append.mp hw with hw | hw
          · rcases List.mem_append.mp hw with hw | hw
            · exact (hel w (cutP_mem hw)).mono (by omega)
            · rw [List.mem_singleton.mp hw]
              exact nz.mono (by omega)
          · exact (hel w (cutP_mem hw)).mono (by omega)
        · rw [if_neg (by simpa using hi)]
          refine go2 zs _ (fun d xs' hd h => ?_) put_same (hz.mono (by omega))
          rw [put_put]
          exact kk d xs' hd h
    | _ =>
      refine is_then kt rfl ?_
      rw [is_tuple]
      exact skip
  · exact h.elim
end K12
local macro_rules | `(tactic| walk_at "val") => `(tactic| repeat' (first | exact DL.vls_nil | apply DL.vls_cons | exact DL.val_c | exact DL.val_dict | exact DL.val_neg | exact DL.val_var rfl | apply DL.val_tup | apply DL.val_lst | apply DL.val_lstV | exact DL.val_pow ⟨by decide, by decide, by decide⟩ | decide))
local macro_rules | `(tactic| walk_at "st") => `(tactic| simp only [DL.startD, List.map_cons, List.map_nil, List.length_cons, List.length_nil, Nat.reduceAdd, Nat.reduceSub, List.replicate_succ, List.replicate_zero, List.cons_append, List.nil_append, List.append_nil, Nat.sub_self, Nat.zero_add])
local macro_rules | `(tactic| walk_at "go") => `(tactic| simp only [↓DL.dSeq, ↓DL.dNext, ↓DL.dAsg, ↓DL.dRet, ↓DL.dRetN, ↓DL.dIfS, ↓DL.dDrop, ↓DL.dBin, ↓DL.dCons, ↓DL.dNil, ↓DL.dTup, ↓DL.dC, ↓DL.dNeg, ↓DL.dAnd, ↓DL.dOr, ↓DL.dNot, ↓DL.dIf, ↓DL.dTst, ↓DL.asB, ↓DL.dChain, ↓DL.dAndT, ↓DL.dOrT, ↓DL.dNotT, ↓DL.dCall, ↓DL.dFn0, ↓DL.dFn, ↓DL.cIntB, ↓DL.dFnK, ↓DL.dIs, ↓DL.dSl, ↓DL.dNoP, ↓DL.dPart, ↓DL.dRev, ↓DL.dLst, ↓DL.dLstV, ↓DL.cListV, ↓DL.dDict, ↓DL.dPar, ↓DL.dPar3, ↓DL.tup2, ↓DL.tup3, ↓DL.tup4, ↓DL.tup5, ↓DL.tup22, ↓DL.tup12, ↓DL.hName, ↓DL.hSub, ↓DL.rI2, ↓DL.rSubD, ↓DL.rMulD, ↓DL.rMulX, ↓DL.rDivF, ↓DL.rDivD, ↓DL.rModD, ↓DL.rPowD, ↓DL.rLtD, ↓DL.rLeD, ↓DL.rGtD, ↓DL.rGeD, ↓DL.rAddD, ↓DL.ixt_0, ↓DL.ixt_1, ↓DL.ixt_2, ↓DL.ixt_3, ↓DL.ixt_4, ↓DL.ixl_0, ↓DL.ixl_1, ↓DL.ixl_2, ↓DL.ixl_3, ↓DL.ixl_4, ↓DL.rEqV, ↓DL.rNeV, ↓DL.rSlD, ↓DL.cLen, ↓DL.cAbs, ↓DL.cInt, ↓DL.cStrI, ↓DL.cDivmod, ↓DL.cMin, ↓DL.cMax, ↓DL.cGcd, ↓DL.cLcm, ↓DL.cAll, ↓DL.cRepr, ↓DL.cReprX, ↓DL.cList, ↓DL.cTuple, ↓DL.rC1, ↓DL.rC2, ↓DL.dNever, ↓DL.dIter, ↓DL.dRng1, ↓DL.dRng2, ↓DL.dYes,
  ↓DL.frz_d, ↓DL.var_zero, ↓DL.var_succ, ↓DL.var_set, ↓DL.var_ne, DL.own_some, DL.no_own2, DL.eqv_int, DL.sh_int, DL.sh_bool, DL.kit_int, DL.kit_bool, DL.kit_tuple, DL.kit_str, DL.is_int, DL.is_bool, DL.is_tuple, DL.is_str, DL.pures_nil, DL.pures_cons, Option.map_some, List.length_cons, List.length_nil, List.length_set, List.map_cons, List.map_nil, DL.pick, List.filterMap_cons, List.filterMap_nil,
  true_and, and_true, ite_true, ite_false, if_true, if_false, reduceIte, reduceCtorEq, ne_eq, not_false_eq_true, Nat.reduceAdd, Nat.reduceLT, Nat.reduceEqDiff, decide_eq_true_eq, Bool.not_true, Bool.not_false, Bool.false_eq_true, eq_self])
namespace K12
open PySem PySem.Spec PyProof.Rows L2 DL LB
theorem lcV_mapK {α : Type} {ti : TId} {i : Nat} {te : TEd} {e : Ed} {st : Sto} {Q : Kd} (zs : List α) (g : α → D) (f : α → PyData) (dep : Option (Addr × List D)) (hat : ∀ a ds, dep = some (a, ds) → st a = some ds) (hti : ∀ R : ItD → Sto → Prop, R ⟨zs.map g, dep⟩ st → ti e st R) (hl : zs.length < sizeLine)
    (hf : ∀ z ∈ zs, ∀ K : Kd, K (.d (f z)) st → te (e.set i (some (g z))) st K) (q : Q (.d (.list (zs.map f))) st) : dLcV ti i dYes te e st Q := by
  refine hti _ ⟨fun j acc st' => st' = st ∧ j ≤ zs.length ∧ acc = (zs.take j).map fun z => D.d (f z), ⟨rfl, Nat.zero_le _, rfl⟩, ?_⟩
  rintro j acc st' ⟨rfl, hj, rfl⟩
  refine ⟨hat, fun hd => ?_, fun d hd => ?_⟩
  · have hd : (zs.map g).length ≤ j := hd
    rw [List.length_map] at hd
    rw [List.take_of_length_le hd]
    refine ⟨zs.map f, ?_, q⟩
    rw [show (zs.map fun z => D.d (f z)) = (zs.map f).map D.d by rw [List.map_map]; rfl]
    exact pures_map _
  · have hd : (zs.map g)[j]? = some d := hd
    rw [List.getElem?_map] at hd
    cases hc : zs[j]? with
    | none =>
      rw [hc] at hd
      cases hd
    | some z =>
      rw [hc] at hd
      cases hd
      have hlt : j < zs.length := (List.getElem?_eq_some_iff.mp hc).1
      refine (show dYes (e.set i (some (g z))) st' (fun b s2 => if b = true then te (e.set i (some (g z))) s2 _ else _) from ?_)
      refine hf z (List.mem_of_getElem? hc) _ ⟨?_, rfl, hlt, ?_⟩
      · rw [List.length_map, List.length_take]
        omega
      · rw [List.take_add_one, hc, List.map_append]
        rfl
theorem layK_all : ∀ {xs : List PyData}, (∀ x ∈ xs, x.canLay0 = true) → PyData.canLayAll0 xs = true
  | [], _ => by simp [PyData.canLayAll0]
  | x :: xs, h => by
    rw [PyData.canLayAll0, h x List.mem_cons_self, layK_all fun y hy => h y (List.mem_cons_of_mem _ hy)]
    rfl
theorem depthK_all {n : Nat} : ∀ {xs : List PyData}, (∀ x ∈ xs, x.depth ≤ n) → PyData.depthAll xs ≤ n
  | [], _ => by simp [PyData.depthAll]
  | x :: xs, h => by
    rw [PyData.depthAll]
    exact Nat.max_le.mpr ⟨h x List.mem_cons_self, depthK_all fun y hy => h y (List.mem_cons_of_mem _ hy)⟩
theorem sh_listK {xs : List PyData} (h : ∀ x ∈ xs, x.canLay0 = true ∧ x.depth ≤ 60) : SeqAt.shaped (.list xs) = true := by
  unfold SeqAt.shaped
  rw [Bool.and_eq_true, decide_eq_true_iff, PyData.canLay0, PyData.depth]
  have := depthK_all fun x hx => (h x hx).2
  exact ⟨layK_all fun x hx => (h x hx).1, by omega⟩
def pr (p : Int × Int) : PyData := .tuple [.int p.1, .int p.2]
theorem pr_sh {ps : List (Int × Int)} : SeqAt.shaped (.list (ps.map pr)) = true := sh_listK (by
  intro x hx
  obtain ⟨p, _, rfl⟩ := List.mem_map.mp hx
  exact ⟨by simp [pr, PyData.canLay0, PyData.canLayAll0], by simp [pr, PyData.depth, PyData.depthAll]⟩)
theorem pr_eqv (p : Int × Int) : PyData.eqv (pr p) (.tuple [.int 0, .int 0]) = decide (p = (0, 0)) := by
  obtain ⟨a, b⟩ := p
  rw [Bool.eq_iff_iff, decide_eq_true_iff]
  simp [pr, PyData.eqv, PyData.eqvAll]
/-- what a row of shapes comes to -/
theorem shape_tail {ps : List (Int × Int)} {nx : Ed → Sto → Prop} {e0 e1 e2 e4 e5 e6 e7 : Option D} {st : Sto} {Q : Kd} (h0 : 0 < ps.length) (h1 : ps.length ≤ 10) (k : ∀ m, m ∈ ps.map Prod.fst → (∀ y, y ∈ ps.map Prod.fst → y ≤ m) → Q (.d (.tuple [.int (1 + m), .int ((ps.map Prod.snd).sum)])) st) :
    (dRet (dTup (dCons (dBin rAddD (dC (.int 1)) (dCall cMaxL (dCons (dLcV (dIter (dVar 3)) 7 dYes (dBin rIxD (dVar 7) (dC (.int 0)))) dNil))) (dCons (dCall cSumL (dCons (dLcV (dIter (dVar 3)) 7 dYes (dBin rIxD (dVar 7) (dC (.int 1)))) dNil)) dNil)))) { nx := nx, rt := RQ Q } [e0, e1, e2, some (.d (.list (ps.map pr))), e4, e5, e6, e7] st := by
  have hl : ps.length < sizeLine := Nat.lt_of_le_of_lt h1 (by decide)
  refine lcV_mapK ps (fun p => .d (pr p)) (fun p => .int p.1) none (fun a ds z => nomatch z) (fun R hR => ⟨_, rfl, (by
    have e : (ps.map pr).map D.d = ps.map fun p => D.d (pr p) := by rw [List.map_map]; rfl
    show R ⟨(ps.map pr).map D.d, none⟩ st
    rw [e]
    exact hR)⟩) hl (fun z hz K hK => ⟨_, rfl, _, atI_nat (j := 0) rfl, hK⟩) ?_
  refine ⟨ps.map Prod.fst, by rw [List.map_map]; show some ((ps.map _).map D.d) = _; rw [List.map_map]; rfl, by rw [List.length_map]; exact h0, fun m hm hle => ?_⟩
  show dLcV (dIter (dVar 3)) 7 dYes (dBin rIxD (dVar 7) (dC (.int 1))) _ st _
  refine lcV_mapK ps (fun p => .d (pr p)) (fun p => .int p.2) none (fun a ds z => nomatch z) (fun R hR => ⟨_, rfl, (by
    have e : (ps.map pr).map D.d = ps.map fun p => D.d (pr p) := by rw [List.map_map]; rfl
    show R ⟨(ps.map pr).map D.d, none⟩ st
    rw [e]
    exact hR)⟩) hl (fun z hz K hK => ⟨_, rfl, _, atI_nat (j := 1) rfl, hK⟩) ?_
  refine ⟨ps.map Prod.snd, by rw [List.map_map]; show some ((ps.map _).map D.d) = _; rw [List.map_map]; rfl, ?_⟩
  exact ⟨big_ok (by simp), .inl (RQ.of (k m hm hle))⟩
theorem ret0 {nx : Ed → Sto → Prop} {e : Ed} {st : Sto} {Q : Kd} (k : Q (.d (.tuple [.int 0, .int 0])) st) : (dRet (dTup (dCons (dC (.int 0)) (dCons (dC (.int 0)) dNil)))) { nx := nx, rt := RQ Q } e st := ⟨big_ok (by decide), .inl (RQ.of k)⟩
end K12
namespace K12
open PySem PySem.Spec PyProof.Rows L2 DL LB
theorem pairs_mem {c : Bool} {ps : List PyData} (h2 : 2 ≤ ps.length) {z : PyData × PyData} (h : z ∈ pairsF c ps) : z.1 ∈ ps ∧ z.2 ∈ ps := by
  unfold pairsF at h
  rcases List.mem_append.mp h with h | h
  · have := List.of_mem_zip (show (z.1, z.2) ∈ ps.zip (ps.drop 1) from h)
    exact ⟨this.1, List.mem_of_mem_drop this.2⟩
  · cases c with
    | false => simp at h
    | true =>
      rw [if_pos rfl, List.mem_singleton] at h
      subst h
      match ps, h2 with
      | a :: b :: r, _ => exact ⟨by
          have e : (a :: b :: r).getLastD .none = (a :: b :: r).getLast (by simp) := rfl
          show (a :: b :: r).getLastD .none ∈ _
          rw [e]
          exact List.getLast_mem _, by simp⟩
theorem pairs_len {c : Bool} {ps : List PyData} : (pairsF c ps).length ≤ ps.length + 1 := by
  unfold pairsF
  rw [List.length_append, List.length_zip]
  cases c
  · rw [if_neg (by decide), List.length_nil]
    omega
  · rw [if_pos rfl, List.length_singleton]
    omega
theorem sub_new {st : Sto} {p : Addr} {xs : List D} (h : st p = none) : Sub st (put st p xs) := fun a => by
  by_cases e : a = p
  · right
    rw [e]
    exact h
  · left
    rw [put_ne e]
theorem all_id {α : Type} (f : α → Bool) (xs : List α) : (xs.map f).all _root_.id = xs.all f := by
  rw [List.all_map]
  rfl
theorem shape_line2 {self : SpD} {nx : Ed → Sto → Prop} {o0 o3 o6 o7 o2 : Option D} {w : Str} {y : PyData} {st : Sto} {Q : Kd} {c : Bool} (hc : decide (w = "area") = c) (k : Q (.d (pr (lineS c y))) st) :
    (dSeq (b_shape_7 self) (dSeq (b_shape_8 self) (b_shape_9 self))) { nx := nx, rt := RQ Q } [o0, some (.d (.str w)), o2, o3, some (.d y), some (I (if c then 3 else 2)), o6, o7] st := by
  refine ⟨_, rfl, _, rfl, ?_⟩
  show if (!isRow (if c then 3 else 2) 12 y) = true then _ else _
  have hlow : ∀ n : Nat, (((if c then 3 else 2 : Int)) ≤ (n : Int)) ↔ ((if c then 3 else 2) ≤ n) := by
    intro n
    cases c <;> simp <;> omega
  by_cases hr : isRow (if c then 3 else 2) 12 y = true
  · rw [hr, if_neg (by decide)]
    obtain ⟨ps, rfl, l1, l2⟩ := row_of hr
    have l1' := (hlow ps.length).mp l1
    have l2' : ps.length ≤ 12 := by omega
    have h2 : 2 ≤ ps.length := by
      cases c
      · exact l1'
      · have : 3 ≤ ps.length := l1'
        omega
    have hl : ps.length < sizeLine := Nat.lt_of_le_of_lt l2' (by decide)
    refine lcV_mapK ps D.d (fun y => .bool (isPl y)) none (fun a ds z => nomatch z) (fun R hR => ⟨_, rfl, hR⟩) hl (fun z hz K hK => ⟨_, rfl, hK⟩) ?_
    refine ⟨ps.map isPl, by show some ((ps.map _).map D.d) = _; rw [List.map_map, List.map_map]; rfl, ?_⟩
    show if (!((ps.map isPl).all _root_.id)) = true then _ else _
    rw [all_id]
    have hcond : (decide ((if c then 3 else 2) ≤ ps.length) && decide (ps.length ≤ 12) && ps.all isPl) = ps.all isPl := by
      rw [decide_eq_true l1', decide_eq_true l2']
      simp
    have k : Q (.d (pr (if (decide ((if c then 3 else 2) ≤ ps.length) && decide (ps.length ≤ 12) && ps.all isPl) = true then (if (pairsF c ps).all (fun p => !PyData.eqv p.1 p.2) = true then (1, ((pairsF c ps).length : Int)) else (0, 0)) else (0, 0)))) st := k
    rw [hcond] at k
    by_cases hp : ps.all isPl = true
    · rw [hp, if_neg (by decide)]
      rw [if_pos hp] at k
      have hpl : ∀ y ∈ ps, isPl y = true := List.all_eq_true.mp hp
      refine ⟨_, rfl, _, rfl, ps, c, by rw [← hc], by omega, h2, fun p hp0 => .inl ?_⟩
      have hz := pairs_len (c := c) (ps := ps)
      show dLcV (dIter (dVar 6)) 7 dYes (dBin rNeV (dBin rIxD (dVar 7) (dC (.int 0))) (dBin rIxD (dVar 7) (dC (.int 1)))) _ _ _
      refine lcV_mapK (pairsF c ps) (fun z => .d (.tuple [z.1, z.2])) (fun z => .bool (!PyData.eqv z.1 z.2)) (some (p, (pairsF c ps).map fun z => .d (.tuple [z.1, z.2]))) (fun a ds z => by
        cases z
        exact put_same) (fun R hR => ⟨_, rfl, _, put_same, hR⟩) (Nat.lt_of_le_of_lt (show _ ≤ 13 by omega) (by decide)) (fun z hz K hK => ⟨_, rfl, _, atI_nat (j := 0) rfl, _, rfl, _, atI_nat (j := 1) rfl, ne_pl (hpl _ (pairs_mem h2 hz).1) (hpl _ (pairs_mem h2 hz).2) hK⟩) ?_
      refine ⟨(pairsF c ps).map fun z => !PyData.eqv z.1 z.2, by show some ((List.map _ _).map D.d) = _; rw [List.map_map, List.map_map]; rfl, ?_⟩
      show if (((pairsF c ps).map fun z => !PyData.eqv z.1 z.2).all _root_.id) = true then _ else _
      rw [all_id]
      by_cases ha : (pairsF c ps).all (fun z => !PyData.eqv z.1 z.2) = true
      · rw [if_pos ha]
        rw [if_pos ha] at k
        refine ⟨_, rfl, _, put_same, big_ok (by simp), .inl ⟨st, sub_new hp0, ?_⟩⟩
        rw [List.length_map]
        exact k
      · rw [if_neg ha]
        rw [if_neg ha] at k
        exact ⟨big_ok (by decide), .inl ⟨st, sub_new hp0, k⟩⟩
    · have hp' : ps.all isPl = false := by simpa using hp
      rw [hp', if_pos (by decide)]
      rw [if_neg hp] at k
      exact ret0 k
  · have e : isRow (if c then 3 else 2) 12 y = false := by simpa using hr
    rw [e, if_pos (by decide)]
    have hx : lineS c y = (0, 0) := by
      cases y with
      | tuple ps =>
        have e : (decide (((if c then 3 else 2 : Int)) ≤ (ps.length : Int)) && decide ((ps.length : Int) ≤ 12)) = false := e
        show (if (decide ((if c then 3 else 2) ≤ ps.length) && decide (ps.length ≤ 12) && ps.all isPl) = true then _ else _) = _
        rw [if_neg]
        intro h
        rw [Bool.and_eq_true, Bool.and_eq_true, decide_eq_true_iff, decide_eq_true_iff] at h
        rw [Bool.and_eq_false_iff, decide_eq_false_iff_not, decide_eq_false_iff_not, hlow] at e
        rcases e with e | e
        · exact e h.1.1
        · omega
      | _ => rfl
    rw [hx] at k
    exact ret0 k
theorem shape_line {self : SpD} {nx : Ed → Sto → Prop} {o0 o3 o4 o5 o6 o7 : Option D} {w : Str} {y : PyData} {st : Sto} {Q : Kd} (k : Q (.d (pr (lineS (decide (w = "area")) y))) st) :
    (dSeq (b_shape_6 self) (dSeq (b_shape_7 self) (dSeq (b_shape_8 self) (b_shape_9 self)))) { nx := nx, rt := RQ Q } [o0, some (.d (.str w)), some (.d (.tuple [y])), o3, o4, o5, o6, o7] st := by
  refine ⟨_, rfl, y, atI_nat (j := 0) rfl, _, rfl, ?_⟩
  show if decide (w = "area") = true then _ else _
  cases hc : decide (w = "area") with
  | false =>
    rw [if_neg (by decide)]
    rw [hc] at k
    exact shape_line2 (c := false) hc k
  | true =>
    rw [if_pos rfl]
    rw [hc] at k
    exact shape_line2 (c := true) hc k
end K12
namespace K12
open PySem PySem.Spec PyProof.Rows L2 DL LB
theorem shape_row {n : Nat} {x : PyData} (h : isRow 2 3 x = false) : shapeF n x = (0, 0) := by
  cases n with
  | zero => rfl
  | succ n =>
    unfold shapeF
    split
    · rename_i w rest
      have e : ¬ (rest.length = 1 ∨ rest.length = 2) := by
        intro hl
        have h : (decide ((2 : Int) ≤ ((PyData.str w :: rest).length : Int)) && decide (((PyData.str w :: rest).length : Int) ≤ 3)) = false := h
        rw [Bool.and_eq_false_iff, decide_eq_false_iff_not, decide_eq_false_iff_not, List.length_cons] at h
        omega
      split
      · split
        · exact absurd (.inr rfl) e
        · rfl
      · split
        · split
          · exact absurd (.inl rfl) e
          · rfl
        · split
          · exact absurd (.inl rfl) e
          · rfl
    · rfl
theorem contains_six {w : Str} : (pairW ++ nearW).contains w = true ↔ (w ∈ pairW ∨ w ∈ nearW) := by
  rw [List.contains_eq_mem, decide_eq_true_iff, List.mem_append]
/-- the shapes of the parts -/
def midW (self : SpD) : TSd := dSeq (dIfS (dOrT (dTst (dBin rNeV (dCall cLen (dCons (dVar 2) dNil)) (dIf (dTst (dBin (rInV false) (dVar 1) (dTup (dCons (dC (.str "both")) (dCons (dC (.str "either")) (dCons (dC (.str "less")) dNil)))))) (dC (.int 2)) (dC (.int 1))))) (dTst (dBin (rInV false) (dTup (dCons (dC (.int 0)) (dCons (dC (.int 0)) dNil))) (dVar 3)))) (dRet (dTup (dCons (dC (.int 0)) (dCons (dC (.int 0)) dNil)))) dNext) (dRet (dTup (dCons (dBin rAddD (dC (.int 1)) (dCall cMaxL (dCons (dLcV (dIter (dVar 3)) 7 dYes (dBin rIxD (dVar 7) (dC (.int 0)))) dNil))) (dCons (dCall cSumL (dCons (dLcV (dIter (dVar 3)) 7 dYes (dBin rIxD (dVar 7) (dC (.int 1)))) dNil)) dNil))))
theorem shape_mid {self : SpD} {nx : Ed → Sto → Prop} {o0 o4 o5 o6 o7 : Option D} {w : Str} {rest : List PyData} {ps : List (Int × Int)} {st : Sto} {Q : Kd} {want : Nat} (hlen : rest.length = ps.length) (h0 : 0 < ps.length) (h1 : ps.length ≤ 2) (hw : want = if w ∈ pairW then 2 else 1)
    (kz : (ps.length ≠ want ∨ (0, 0) ∈ ps) → Q (.d (.tuple [.int 0, .int 0])) st) (k : ps.length = want → (0, 0) ∉ ps → ∀ m, m ∈ ps.map Prod.fst → (∀ y, y ∈ ps.map Prod.fst → y ≤ m) → Q (.d (.tuple [.int (1 + m), .int ((ps.map Prod.snd).sum)])) st) :
    midW self { nx := nx, rt := RQ Q } [o0, some (.d (.str w)), some (.d (.tuple rest)), some (.d (.list (ps.map pr))), o4, o5, o6, o7] st := by
  refine ⟨_, rfl, _, rfl, big_ok (by decide), rin_strs (ws := pairW) ?_⟩
  show if (false != pairW.contains w) = true then _ else _
  have low : ∀ q : Prop, ((rest.length : Int) = (want : Int) → q) → (ps.length ≠ want → q) → q := fun q a b => by
    by_cases e : ps.length = want
    · exact a (by rw [hlen, e])
    · exact b e
  have two : (if (!decide ((rest.length : Int) = (want : Int))) = true then (dRet (dTup (dCons (dC (.int 0)) (dCons (dC (.int 0)) dNil)))) { nx := dRet (dTup (dCons (dBin rAddD (dC (.int 1)) (dCall cMaxL (dCons (dLcV (dIter (dVar 3)) 7 dYes (dBin rIxD (dVar 7) (dC (.int 0)))) dNil))) (dCons (dCall cSumL (dCons (dLcV (dIter (dVar 3)) 7 dYes (dBin rIxD (dVar 7) (dC (.int 1)))) dNil)) dNil))) { nx := nx, rt := RQ Q }, rt := RQ Q } [o0, some (.d (.str w)), some (.d (.tuple rest)), some (.d (.list (ps.map pr))), o4, o5, o6, o7] st else
      dBin (rInV false) (dTup (dCons (dC (.int 0)) (dCons (dC (.int 0)) dNil))) (dVar 3) [o0, some (.d (.str w)), some (.d (.tuple rest)), some (.d (.list (ps.map pr))), o4, o5, o6, o7] st (asB fun b st1 => if b = true then (dRet (dTup (dCons (dC (.int 0)) (dCons (dC (.int 0)) dNil)))) { nx := dRet (dTup (dCons (dBin rAddD (dC (.int 1)) (dCall cMaxL (dCons (dLcV (dIter (dVar 3)) 7 dYes (dBin rIxD (dVar 7) (dC (.int 0)))) dNil))) (dCons (dCall cSumL (dCons (dLcV (dIter (dVar 3)) 7 dYes (dBin rIxD (dVar 7) (dC (.int 1)))) dNil)) dNil))) { nx := nx, rt := RQ Q }, rt := RQ Q } [o0, some (.d (.str w)), some (.d (.tuple rest)), some (.d (.list (ps.map pr))), o4, o5, o6, o7] st1 else
        (dRet (dTup (dCons (dBin rAddD (dC (.int 1)) (dCall cMaxL (dCons (dLcV (dIter (dVar 3)) 7 dYes (dBin rIxD (dVar 7) (dC (.int 0)))) dNil))) (dCons (dCall cSumL (dCons (dLcV (dIter (dVar 3)) 7 dYes (dBin rIxD (dVar 7) (dC (.int 1)))) dNil)) dNil)))) { nx := nx, rt := RQ Q } [o0, some (.d (.str w)), some (.d (.tuple rest)), some (.d (.list (ps.map pr))), o4, o5, o6, o7] st1)) := by
    by_cases e : ps.length = want
    · rw [if_neg (by rw [hlen, e]; simp)]
      refine ⟨big_ok (by decide), _, rfl, ps.map pr, rfl, .inr ⟨by simp [SeqAt.shaped, PyData.canLay0, PyData.canLayAll0, PyData.depth, PyData.depthAll], pr_sh⟩, ?_⟩
      show if (false != (ps.map pr).any fun z => PyData.eqv z (.tuple [.int 0, .int 0])) = true then _ else _
      have ea : ((ps.map pr).any fun z => PyData.eqv z (.tuple [.int 0, .int 0])) = decide ((0, 0) ∈ ps) := by
        rw [Bool.eq_iff_iff, decide_eq_true_iff, List.any_eq_true]
        constructor
        · rintro ⟨z, hz, h⟩
          obtain ⟨p, hp, rfl⟩ := List.mem_map.mp hz
          rw [pr_eqv, decide_eq_true_iff] at h
          exact h ▸ hp
        · intro h
          exact ⟨_, List.mem_map.mpr ⟨_, h, rfl⟩, by rw [pr_eqv, decide_eq_true_iff]⟩
      rw [ea]
      by_cases hm : (0, 0) ∈ ps
      · rw [decide_eq_true hm, if_pos (by decide)]
        exact ret0 (kz (.inr hm))
      · rw [decide_eq_false hm, if_neg (by decide)]
        exact shape_tail h0 (by omega) (k e hm)
    · rw [if_pos (by rw [hlen]; simp; omega)]
      exact ret0 (kz (.inl e))
  by_cases hp : w ∈ pairW
  · have e1 : pairW.contains w = true := by simpa using hp
    rw [if_pos hp] at hw
    subst hw
    rw [e1, if_pos (by decide)]
    exact two
  · have e1 : pairW.contains w = false := by simpa using hp
    rw [if_neg hp] at hw
    subst hw
    rw [e1, if_neg (by decide)]
    exact two
end K12
namespace K12
open PySem PySem.Spec PyProof.Rows L2 DL LB
theorem shape_pair {n : Nat} {w : Str} {rest : List PyData} (h : w ∈ pairW) : shapeF (n + 1) (.tuple (.str w :: rest)) = match rest with
        | [y, z] => if shapeF n y = (0, 0) ∨ shapeF n z = (0, 0) then (0, 0) else (1 + (if (shapeF n y).1 ≤ (shapeF n z).1 then (shapeF n z).1 else (shapeF n y).1), (shapeF n y).2 + (shapeF n z).2)
        | _ => (0, 0) := by
  show (if w ∈ pairW then _ else _) = _
  rw [if_pos h]
  try rfl
theorem shape_near {n : Nat} {w : Str} {rest : List PyData} (h1 : w ∉ pairW) (h : w ∈ nearW) : shapeF (n + 1) (.tuple (.str w :: rest)) = match rest with
        | [y] => if shapeF n y = (0, 0) then (0, 0) else (1 + (shapeF n y).1, (shapeF n y).2)
        | _ => (0, 0) := by
  show (if w ∈ pairW then _ else if w ∈ nearW then _ else _) = _
  rw [if_neg h1, if_pos h]
  try rfl
theorem shape_base {n : Nat} {w : Str} {rest : List PyData} (h1 : w ∉ pairW) (h : w ∉ nearW) : shapeF (n + 1) (.tuple (.str w :: rest)) = match rest with
        | [y] => if w = "spot" then (if isPl y then (1, 0) else (0, 0)) else if w = "path" then lineS false y else if w = "area" then lineS true y else (0, 0)
        | _ => (0, 0) := by
  show (if w ∈ pairW then _ else if w ∈ nearW then _ else _) = _
  rw [if_neg h1, if_neg h]
  try rfl
theorem r_shape (n : Nat) (self : SpD) (hs : ∀ m, n = m + 1 → ∀ ds st Q, sp_shapeK m ds st Q → self ds st Q) : ∀ ds st Q, sp_shapeK n ds st Q → b_shape self { nx := fun _ s' => RQ Q (.d .none) s', rt := RQ Q } (startD N_shape ds) st := by
  rintro ds st Q ⟨x, rfl, hN, k⟩
  show b_shape self _ [some (.d x), none, none, none, none, none, none, none] st
  have k : Q (.d (pr (shapeF n x))) st := k
  refine ⟨_, rfl, ?_⟩
  show if (!isRow 2 3 x) = true then _ else _
  by_cases hr : isRow 2 3 x = true
  · rw [hr, if_neg (by decide)]
    obtain ⟨xs, rfl, l1, l2⟩ := row_of hr
    cases xs with
    | nil => simp at l1
    | cons a rest =>
      obtain ⟨n, rfl, hel⟩ := nst_tup hN
      have hs := hs n rfl
      refine ⟨_, rfl, a, atI_nat (j := 0) rfl, (fun b z => nomatch z), kit_all (by decide +kernel) _, ?_⟩
      show if (!isT "str" (.d a)) = true then _ else _
      rw [is_str]
      cases a with
      | str w =>
        rw [if_neg (by simp)]
        have hl : rest.length = 1 ∨ rest.length = 2 := by
          rw [List.length_cons] at l1 l2
          omega
        refine ⟨_, rfl, _, atI_nat (j := 0) rfl, _, rfl, ?_⟩
        show (dSeq (b_shape_3 self) _) _ [some (.d (.tuple (.str w :: rest))), some (.d (.str w)), some (.d (.tuple (cutP (.str w :: rest) (some 1) none))), none, none, none, none, none] st
        rw [cut_tail]
        refine ⟨_, rfl, big_ok (by decide), rin_strs (ws := pairW ++ nearW) ?_⟩
        show if (false != (pairW ++ nearW).contains w) = true then _ else _
        by_cases h6 : w ∈ pairW ∨ w ∈ nearW
        · rw [contains_six.mpr h6, if_pos (by decide)]
          refine lcV_mapK rest D.d (fun y => pr (shapeF n y)) none (fun a ds z => nomatch z) (fun R hR => ⟨_, rfl, hR⟩) (Nat.lt_of_le_of_lt (show _ ≤ 2 by omega) (by decide)) (fun z hz K hK => ⟨_, rfl, hs _ _ _ ⟨z, rfl, hel z (by simp [hz]), hK⟩⟩) (.inl ?_)
          have e : rest.map (fun y => pr (shapeF n y)) = (rest.map (shapeF n)).map pr := by rw [List.map_map]; rfl
          rw [e]
          refine shape_mid (self := self) (ps := rest.map (shapeF n)) (want := if w ∈ pairW then 2 else 1) (by rw [List.length_map]) (by rw [List.length_map]; omega) (by rw [List.length_map]; omega) rfl (fun hz => ?_) (fun h1 h2 m hm hle => ?_)
          · rw [List.length_map] at hz
            by_cases hp : w ∈ pairW
            · rw [shape_pair hp] at k
              rw [if_pos hp] at hz
              match rest, hl with
              | [y], _ => exact k
              | [y, z], _ =>
                dsimp only at k
                rw [if_pos] at k
                · exact k
                · rcases hz with h | h
                  · exact absurd rfl h
                  · simp only [List.map_cons, List.map_nil, List.mem_cons, List.not_mem_nil, or_false] at h
                    rcases h with h | h
                    · exact .inl h.symm
                    · exact .inr h.symm
            · rw [shape_near hp (h6.resolve_left hp)] at k
              rw [if_neg hp] at hz
              match rest, hl with
              | [y, z], _ => exact k
              | [y], _ =>
                dsimp only at k
                rw [if_pos] at k
                · exact k
                · rcases hz with h | h
                  · exact absurd rfl h
                  · simp only [List.map_cons, List.map_nil, List.mem_cons, List.not_mem_nil, or_false] at h
                    exact h.symm
          · rw [List.length_map] at h1
            by_cases hp : w ∈ pairW
            · rw [shape_pair hp] at k
              rw [if_pos hp] at h1
              match rest, h1 with
              | [y, z], _ =>
                simp only [List.map_cons, List.map_nil, List.mem_cons, List.not_mem_nil, or_false, not_or] at h2 hm hle
                dsimp only at k
                rw [if_neg (by
                  rintro (h | h)
                  · exact h2.1 h.symm
                  · exact h2.2 h.symm)] at k
                have hmm : m = if (shapeF n y).1 ≤ (shapeF n z).1 then (shapeF n z).1 else (shapeF n y).1 := by
                  have a1 := hle _ (.inl rfl)
                  have a2 := hle _ (.inr rfl)
                  split <;> rcases hm with h | h <;> omega
                rw [hmm]
                have hsum : ([(shapeF n y).2, (shapeF n z).2] : List Int).sum = (shapeF n y).2 + (shapeF n z).2 := by simp
                show Q (.d (.tuple [_, .int (([(shapeF n y).2, (shapeF n z).2] : List Int).sum)])) st
                rw [hsum]
                exact k
            · rw [shape_near hp (h6.resolve_left hp)] at k
              rw [if_neg hp] at h1
              match rest, h1 with
              | [y], _ =>
                simp only [List.map_cons, List.map_nil, List.mem_cons, List.not_mem_nil, or_false] at h2 hm hle
                dsimp only at k
                rw [if_neg (fun h => h2 h.symm)] at k
                rw [hm]
                have hsum : ([(shapeF n y).2] : List Int).sum = (shapeF n y).2 := by simp
                show Q (.d (.tuple [_, .int (([(shapeF n y).2] : List Int).sum)])) st
                rw [hsum]
                exact k
        · have hc : (pairW ++ nearW).contains w = false := by
            rw [Bool.eq_false_iff]
            exact fun h => h6 (contains_six.mp h)
          rw [hc, if_neg (by decide)]
          have hp : w ∉ pairW := fun h => h6 (.inl h)
          have hn : w ∉ nearW := fun h => h6 (.inr h)
          rw [shape_base hp hn] at k
          refine ⟨_, rfl, ?_⟩
          show if (!decide ((rest.length : Int) = 1)) = true then _ else _
          match rest, hl with
          | [y, z], _ =>
            rw [if_pos (by simp)]
            exact ret0 k
          | [y], _ =>
            rw [if_neg (by simp)]
            refine ⟨_, rfl, big_ok (by decide), rin_strs (ws := ["spot", "path", "area"]) ?_⟩
            show if (true != (["spot", "path", "area"] : List Str).contains w) = true then _ else _
            have k : Q (.d (pr (if w = "spot" then (if isPl y then (1, 0) else (0, 0)) else if w = "path" then lineS false y else if w = "area" then lineS true y else (0, 0)))) st := k
            by_cases hw : w ∈ (["spot", "path", "area"] : List Str)
            · have e3 : (["spot", "path", "area"] : List Str).contains w = true := by simpa using hw
              rw [e3, if_neg (by decide)]
              refine ⟨_, rfl, ?_⟩
              show if decide (w = "spot") = true then _ else _
              by_cases hsp : w = "spot"
              · rw [if_pos (decide_eq_true hsp)]
                rw [if_pos hsp] at k
                refine ⟨_, rfl, y, atI_nat (j := 0) rfl, ?_⟩
                show if isPl y = true then _ else _
                by_cases hy : isPl y = true
                · rw [if_pos hy]
                  rw [if_pos hy] at k
                  exact ⟨big_ok (by decide), .inl (RQ.of k)⟩
                · rw [if_neg hy]
                  rw [if_neg hy] at k
                  exact ⟨big_ok (by decide), .inl (RQ.of k)⟩
              · rw [if_neg (by simpa using hsp)]
                rw [if_neg hsp] at k
                refine shape_line ?_
                by_cases hpa : w = "path"
                · rw [if_pos hpa] at k
                  have : decide (w = "area") = false := by rw [hpa]; decide
                  rw [this]
                  exact k
                · rw [if_neg hpa] at k
                  have har : w = "area" := by
                    simp only [List.mem_cons, List.not_mem_nil, or_false] at hw
                    rcases hw with h | h | h
                    · exact absurd h hsp
                    · exact absurd h hpa
                    · exact h
                  rw [if_pos har] at k
                  rw [decide_eq_true har]
                  exact k
            · have e3 : (["spot", "path", "area"] : List Str).contains w = false := by simpa using hw
              rw [e3, if_pos (by decide)]
              simp only [List.mem_cons, List.not_mem_nil, or_false, not_or] at hw
              rw [if_neg hw.1, if_neg hw.2.1, if_neg hw.2.2] at k
              exact ret0 k
      | _ =>
        rw [if_pos (by simp)]
        exact ret0 k
  · have e : isRow 2 3 x = false := by simpa using hr
    rw [e, if_pos (by decide)]
    rw [shape_row e] at k
    exact ret0 k
end K12
namespace K12
open PySem PySem.Spec PyProof.Rows L2 DL LB
theorem zip_unl : ∀ ps : List PyData, ((ps.zip (ps.drop 1)).all fun p => !PyData.eqv p.1 p.2) = unl ps
  | [] => rfl
  | [a] => rfl
  | a :: b :: r => by
    have ih := zip_unl (b :: r)
    show ((!PyData.eqv a b) && (((b :: r).zip ((b :: r).drop 1)).all fun p => !PyData.eqv p.1 p.2)) = _
    rw [ih]
    rfl
theorem eqv_comm {x y : PyData} (hx : isPl x = true) (hy : isPl y = true) : PyData.eqv x y = PyData.eqv y x := by
  obtain ⟨a, b, c, d, rfl⟩ := pl_form hx
  obtain ⟨a', b', c', d', rfl⟩ := pl_form hy
  rw [Bool.eq_iff_iff]
  simp [fr, PyData.eqv, PyData.eqvAll]
  omega
theorem line_sh {c : Bool} {y : PyData} : (lineS c y = (0, 0) ∧ (isLn (if c then 3 else 2) y && (!c || ends y)) = false) ∨
    (∃ ps, y = .tuple ps ∧ 2 ≤ ps.length ∧ lineS c y = (1, ((pairsF c ps).length : Int)) ∧ (isLn (if c then 3 else 2) y && (!c || ends y)) = true) := by
  cases y with
  | tuple ps =>
    have e1 : lineS c (.tuple ps) = if (decide ((if c then 3 else 2) ≤ ps.length) && decide (ps.length ≤ 12) && ps.all isPl) = true then (if (pairsF c ps).all (fun p => !PyData.eqv p.1 p.2) = true then (1, ((pairsF c ps).length : Int)) else (0, 0)) else (0, 0) := rfl
    have e2 : isLn (if c then 3 else 2) (.tuple ps) = (decide ((if c then 3 else 2) ≤ ps.length) && decide (ps.length ≤ 12) && ps.all isPl && unl ps) := rfl
    rw [e1, e2]
    by_cases h : (decide ((if c then 3 else 2) ≤ ps.length) && decide (ps.length ≤ 12) && ps.all isPl) = true
    · rw [if_pos h, h, Bool.true_and]
      rw [Bool.and_eq_true, Bool.and_eq_true, decide_eq_true_iff] at h
      have h2 : 2 ≤ ps.length := by
        have := h.1.1
        cases c
        · exact this
        · have this : 3 ≤ ps.length := this
          omega
      have hpl := List.all_eq_true.mp h.2
      have e3 : (pairsF c ps).all (fun p => !PyData.eqv p.1 p.2) = (unl ps && (!c || ends (.tuple ps))) := by
        unfold pairsF
        rw [List.all_append, zip_unl]
        cases c with
        | false => simp
        | true =>
          match ps, h2, hpl with
          | a :: b :: r, _, hpl =>
            have e : (a :: b :: r).getLastD .none = (a :: b :: r).getLast (by simp) := rfl
            rw [if_pos rfl]
            show (unl _ && ((!PyData.eqv ((a :: b :: r).getLastD .none) a) && true)) = (unl _ && (false || !PyData.eqv a ((a :: b :: r).getLast (by simp))))
            rw [e, eqv_comm (hpl _ (List.getLast_mem (l := a :: b :: r) (by simp))) (hpl a (by simp))]
            simp
      rw [e3]
      cases hu : (unl ps && (!c || ends (.tuple ps)))
      · left
        exact ⟨by simp, rfl⟩
      · right
        exact ⟨ps, rfl, h2, by simp, rfl⟩
    · left
      rw [if_neg h]
      have : (decide ((if c then 3 else 2) ≤ ps.length) && decide (ps.length ≤ 12) && ps.all isPl) = false := by simpa using h
      exact ⟨rfl, by rw [this]; rfl⟩
  | _ => exact .inl ⟨rfl, rfl⟩
theorem shape_nn : ∀ (n : Nat) (x : PyData), shapeF n x = (0, 0) ∨ 0 < (shapeF n x).1 := by
  intro n
  induction n with
  | zero => intro x; exact .inl rfl
  | succ n ih =>
    intro x
    cases x with
    | tuple xs =>
      cases xs with
      | nil => exact .inl rfl
      | cons a rest =>
        cases a with
        | str w =>
          by_cases hp : w ∈ pairW
          · rw [shape_pair hp]
            match rest with
            | [] => exact .inl rfl
            | [y] => exact .inl rfl
            | [y, z] =>
              dsimp only
              by_cases h : shapeF n y = (0, 0) ∨ shapeF n z = (0, 0)
              · rw [if_pos h]
                exact .inl rfl
              · rw [if_neg h]
                rw [not_or] at h
                right
                have h1 := (ih y).resolve_left h.1
                have h2 := (ih z).resolve_left h.2
                show 0 < 1 + (if (shapeF n y).1 ≤ (shapeF n z).1 then (shapeF n z).1 else (shapeF n y).1)
                split <;> omega
            | a :: b :: c :: d => exact .inl rfl
          · by_cases hn : w ∈ nearW
            · rw [shape_near hp hn]
              match rest with
              | [] => exact .inl rfl
              | [y] =>
                dsimp only
                by_cases h : shapeF n y = (0, 0)
                · rw [if_pos h]
                  exact .inl rfl
                · rw [if_neg h]
                  right
                  have h1 := (ih y).resolve_left h
                  show 0 < 1 + (shapeF n y).1
                  omega
              | a :: b :: c => exact .inl rfl
            · rw [shape_base hp hn]
              match rest with
              | [] => exact .inl rfl
              | [y] =>
                dsimp only
                have L : ∀ c, lineS c y = (0, 0) ∨ 0 < (lineS c y).1 := fun c => by
                  rcases line_sh (c := c) (y := y) with h | ⟨ps, _, _, h, _⟩
                  · exact .inl h.1
                  · right
                    rw [h]
                    exact Int.one_pos
                split
                · split
                  · exact .inr Int.one_pos
                  · exact .inl rfl
                · split
                  · exact L _
                  · split
                    · exact L _
                    · exact .inl rfl
              | a :: b :: c => exact .inl rfl
        | _ => exact .inl rfl
    | _ => exact .inl rfl
theorem lnB_area {ps : List PyData} : (lnB (.tuple [.str "area", .tuple ps])).length = (pairsF true ps).length := by
  have e : lnB (.tuple [.str "area", .tuple ps]) = zipD ps (ps.drop 1) ++ [.tuple [ps.getLastD .none, ps.headD .none]] := rfl
  rw [e]
  unfold zipD pairsF
  rw [List.length_append, List.length_append, List.length_map]
  rfl
theorem lnB_path {ps : List PyData} : (lnB (.tuple [.str "path", .tuple ps])).length = (pairsF false ps).length := by
  have e : lnB (.tuple [.str "path", .tuple ps]) = zipD ps (ps.drop 1) := rfl
  rw [e]
  unfold zipD pairsF
  rw [List.length_append, List.length_map]
  rfl
/-- the two looks at a basic figure -/
theorem bas_sh {n : Nat} {w : Str} {y : PyData} (h1 : w ∉ pairW) (h2 : w ∉ nearW) : (shapeF (n + 1) (.tuple [.str w, y]) = (0, 0) ∧ isBas w y = false) ∨ (∃ l : Nat, shapeF (n + 1) (.tuple [.str w, y]) = (1, (l : Int)) ∧ isBas w y = true ∧ (lnB (.tuple [.str w, y])).length = l) := by
  rw [shape_base h1 h2]
  unfold isBas
  dsimp only
  by_cases e1 : w = "spot"
  · subst e1
    rw [if_pos rfl, if_pos rfl]
    by_cases hy : isPl y = true
    · right
      obtain ⟨a, b, c, d, rfl⟩ := pl_form hy
      exact ⟨0, by rw [if_pos hy]; rfl, hy, rfl⟩
    · left
      exact ⟨by rw [if_neg hy], by simpa using hy⟩
  · rw [if_neg e1, if_neg e1]
    by_cases e2 : w = "path"
    · subst e2
      rw [if_pos rfl, if_pos rfl]
      rcases line_sh (c := false) (y := y) with ⟨a, b⟩ | ⟨ps, rfl, _, a, b⟩
      · left
        exact ⟨a, by simpa using b⟩
      · right
        exact ⟨_, a, by simpa using b, lnB_path⟩
    · rw [if_neg e2, if_neg e2]
      by_cases e3 : w = "area"
      · subst e3
        rw [if_pos rfl]
        rcases line_sh (c := true) (y := y) with ⟨a, b⟩ | ⟨ps, rfl, _, a, b⟩
        · left
          exact ⟨a, by simpa using b⟩
        · right
          exact ⟨_, a, by simpa using b, lnB_area⟩
      · rw [if_neg e3]
        left
        exact ⟨rfl, by simp [e3]⟩
theorem figF_pair {j : Nat} {w : Str} {rest : List PyData} (hp : w ∈ pairW) : figF (j + 1) (.tuple (.str w :: rest)) = match rest with
          | [y, z] => figF j y && figF j z
          | _ => false := by
  show (if w ∈ pairW then _ else _) = _
  rw [if_pos hp]
  try rfl
theorem figF_near {j : Nat} {w : Str} {rest : List PyData} (hp : w ∉ pairW) (hn : w ∈ nearW) : figF (j + 1) (.tuple (.str w :: rest)) = match rest with
          | [y] => figF j y
          | _ => false := by
  show (if w ∈ pairW then _ else _) = _
  rw [if_neg hp]
  match rest with
  | [] => rfl
  | [y] =>
    show (if w ∈ nearW then _ else _) = _
    rw [if_pos hn]
  | a :: b :: c => rfl
/-- the two looks agree -/
theorem fig_sh : ∀ (j n : Nat) (x : PyData), Nst n x → ((0 < (shapeF n x).1 ∧ (shapeF n x).1 ≤ (j : Int)) ↔ figF j x = true) ∧ (figF j x = true → (shapeF n x).2 = (((basF j x).flatMap lnB).length : Int)) := by
  intro j
  induction j with
  | zero =>
    intro n x _
    refine ⟨⟨fun h => ?_, fun h => by cases h⟩, fun h => by cases h⟩
    have := h.1
    have := h.2
    omega
  | succ j ih =>
    intro n x hN
    by_cases hf : ∃ w rest, x = .tuple (.str w :: rest)
    · obtain ⟨w, rest, rfl⟩ := hf
      obtain ⟨n, rfl, hel⟩ := nst_tup hN
      by_cases hp : w ∈ pairW
      · rw [shape_pair hp]
        rw [figF_pair hp]
        match rest, hel with
        | [], _ => simp
        | [y], _ => simp
        | a :: b :: c :: d, _ => simp
        | [y, z], hel =>
          dsimp only
          obtain ⟨i1, c1⟩ := ih n y (hel y (by simp))
          obtain ⟨i2, c2⟩ := ih n z (hel z (by simp))
          rw [Bool.and_eq_true, basF_two hp]
          by_cases h0 : shapeF n y = (0, 0) ∨ shapeF n z = (0, 0)
          · rw [if_pos h0]
            have no : ¬ (figF j y = true ∧ figF j z = true) := by
              rintro ⟨a, b⟩
              rcases h0 with h | h
              · have := i1.mpr a
                rw [h] at this
                exact absurd this.1 (by decide)
              · have := i2.mpr b
                rw [h] at this
                exact absurd this.1 (by decide)
            exact ⟨⟨fun h => absurd h.1 (by simp), fun h => absurd h no⟩, fun h => absurd h no⟩
          · rw [if_neg h0]
            rw [not_or] at h0
            have p1 := (shape_nn n y).resolve_left h0.1
            have p2 := (shape_nn n z).resolve_left h0.2
            rw [← i1, ← i2]
            refine ⟨?_, fun h => ?_⟩
            · dsimp only
              split <;> omega
            · have a := c1 (i1.mp h.1)
              have b := c2 (i2.mp h.2)
              rw [List.flatMap_append, List.length_append]
              dsimp only
              rw [a, b]
              simp
      · by_cases hn : w ∈ nearW
        · rw [shape_near hp hn]
          rw [figF_near hp hn]
          match rest, hel with
          | [], _ => simp
          | a :: b :: c, _ => simp
          | [y], hel =>
            dsimp only
            obtain ⟨i1, c1⟩ := ih n y (hel y (by simp))
            rw [basF_one hp hn]
            by_cases h0 : shapeF n y = (0, 0)
            · rw [if_pos h0]
              have no : ¬ (figF j y = true) := by
                intro a
                have := i1.mpr a
                rw [h0] at this
                exact absurd this.1 (by decide)
              exact ⟨⟨fun h => absurd h.1 (by simp), fun h => absurd h no⟩, fun h => absurd h no⟩
            · rw [if_neg h0]
              have p1 := (shape_nn n y).resolve_left h0
              rw [← i1]
              refine ⟨?_, fun h => c1 (i1.mp h)⟩
              dsimp only
              omega
        · match rest, hel with
          | [], _ =>
            rw [shape_base hp hn]
            have ef : figF (j + 1) (.tuple [.str w]) = false := by
              show (if w ∈ pairW then _ else false) = _
              rw [if_neg hp]
            rw [ef]
            simp
          | a :: b :: c, _ =>
            rw [shape_base hp hn]
            have ef : figF (j + 1) (.tuple (.str w :: a :: b :: c)) = false := by
              show (if w ∈ pairW then _ else false) = _
              rw [if_neg hp]
            rw [ef]
            simp
          | [y], _ =>
            have ef : figF (j + 1) (.tuple [.str w, y]) = isBas w y := by
              show (if w ∈ pairW then _ else if w ∈ nearW then _ else _) = _
              rw [if_neg hp, if_neg hn]
            rw [ef, basF_bas hp hn]
            rcases bas_sh (n := n) (y := y) hp hn with ⟨a, b⟩ | ⟨l, a, b, c⟩
            · rw [a, b]
              simp
            · rw [a, b]
              refine ⟨⟨fun _ => rfl, fun _ => ⟨Int.one_pos, by omega⟩⟩, fun _ => ?_⟩
              rw [List.flatMap_cons, List.flatMap_nil, List.append_nil, c]
    · have e1 : shapeF n x = (0, 0) := by
        cases n with
        | zero => rfl
        | succ n =>
          unfold shapeF
          split
          · exact absurd ⟨_, _, rfl⟩ hf
          · rfl
      have e2 : figF (j + 1) x = false := by
        unfold figF
        split
        · exact absurd ⟨_, _, rfl⟩ hf
        · rfl
      rw [e1, e2]
      simp
theorem due_fig {n : Nat} {x : PyData} (hN : Nst n x) : (decide (0 < (shapeF n x).1) && decide ((shapeF n x).1 < 7) && decide ((shapeF n x).2 < 25)) = figB x := by
  obtain ⟨a, b⟩ := fig_sh 6 n x hN
  unfold figB linF
  cases hf : figF 6 x with
  | false =>
    rw [hf] at a
    rw [Bool.false_and, Bool.and_eq_false_iff, Bool.and_eq_false_iff, decide_eq_false_iff_not, decide_eq_false_iff_not]
    left
    by_cases h : 0 < (shapeF n x).1
    · right
      intro h7
      exact absurd (a.mp ⟨h, by omega⟩) (by decide)
    · exact .inl h
  | true =>
    have hh := a.mpr hf
    rw [b hf, decide_eq_true hh.1, decide_eq_true (show (shapeF n x).1 < 7 by have := hh.2; omega), Bool.true_and, Bool.true_and, Bool.true_and, Bool.eq_iff_iff, decide_eq_true_iff, decide_eq_true_iff]
    omega
theorem r_is_due : ∀ ds st Q, sp_is_due ds st Q → b_is_due { nx := fun _ s' => Q (.d .none) s', rt := Q } (startD N_is_due ds) st := by
  rintro ds st Q ⟨x, rfl, hN, k⟩
  show b_is_due _ [some (.d x), none, none] st
  refine ⟨_, rfl, x, rfl, hN, .inl ⟨rfl, rfl, ?_⟩⟩
  show b_is_due_2 _ [some (.d x), some (I (shapeF 20 x).1), some (I (shapeF 20 x).2)] st
  have k := k
  rw [← due_fig hN] at k
  refine ⟨_, rfl, trivial, ?_⟩
  show if decide ((0 : Int) < (shapeF 20 x).1) = true then _ else _
  cases h1 : decide ((0 : Int) < (shapeF 20 x).1) with
  | false =>
    rw [if_neg (by decide)]
    rw [h1] at k
    exact .inl k
  | true =>
    rw [if_pos rfl]
    rw [h1] at k
    refine ⟨trivial, ?_⟩
    show if decide ((shapeF 20 x).1 < 7) = true then _ else _
    cases h2 : decide ((shapeF 20 x).1 < 7) with
    | false =>
      rw [if_neg (by decide)]
      rw [h2] at k
      exact .inl k
    | true =>
      rw [if_pos rfl]
      rw [h2] at k
      exact ⟨_, rfl, trivial, .inl k⟩
end K12
namespace K12
open PySem PySem.Spec PyProof.Rows L2 DL LB
def okR (x : PyData) : Prop := x.hasDict = false ∧ x.showable = true ∧ x.shown.length ≤ sizeLine ∧ x.depth ≤ 64
/-- a part of a bigger thing that may be shown -/
structure Sh (k d : Nat) (x : PyData) : Prop where
  nd : x.hasDict = false
  sh : x.showable = true
  ln : x.shown.length ≤ k
  dp : x.depth ≤ d
theorem Sh.ok {k d : Nat} {x : PyData} (h : Sh k d x) (hk : k ≤ 1000000) (hd : d ≤ 64) : okR x := ⟨h.nd, h.sh, Nat.le_trans h.ln (Nat.le_trans hk (by decide)), Nat.le_trans h.dp hd⟩
theorem str_app (a b : Str) : (a ++ b).length = a.length + b.length := by
  exact strLen_append a b
theorem all_nd : ∀ {xs : List PyData}, (∀ x ∈ xs, x.hasDict = false) → PyData.hasDictAll xs = false
  | [], _ => rfl
  | a :: r, h => by
    simp only [PyData.hasDictAll, Bool.or_eq_false_iff]
    exact ⟨h a List.mem_cons_self, all_nd fun x hx => h x (List.mem_cons_of_mem _ hx)⟩
theorem all_sh : ∀ {xs : List PyData}, (∀ x ∈ xs, x.showable = true) → PyData.showableAll xs = true
  | [], _ => rfl
  | a :: r, h => by
    simp only [PyData.showableAll, Bool.and_eq_true]
    exact ⟨h a List.mem_cons_self, all_sh fun x hx => h x (List.mem_cons_of_mem _ hx)⟩
theorem all_ln {k : Nat} : ∀ {xs : List PyData}, (∀ x ∈ xs, x.shown.length ≤ k) → ((PyData.shownAll xs).map (fun x => x.length)).sum ≤ xs.length * k
  | [], _ => by simp [PyData.shownAll]
  | a :: r, h => by
    have := all_ln fun x hx => h x (List.mem_cons_of_mem a hx)
    have := h a List.mem_cons_self
    simp only [PyData.shownAll, List.map_cons, List.sum_cons, List.length_cons, Nat.add_mul]
    omega
theorem sl_join {k : Nat} {xs : List PyData} (h : ∀ x ∈ xs, x.shown.length ≤ k) : ((Str.ofString ", ").join (PyData.shownAll xs)).length ≤ xs.length * (k + 2) := by
  have := PySem.StrLaws.join_length_le (Str.ofString ", ") (PyData.shownAll xs)
  have e : (Str.ofString ", ").length = 2 := by rw [PySem.ofString_length]; rfl
  rw [PyData.shownAll_length, e] at this
  have := all_ln h
  rw [Nat.mul_add]
  omega
theorem one_ch : (Str.ofString "[").length = 1 ∧ (Str.ofString "]").length = 1 ∧ (Str.ofString "(").length = 1 ∧ ∀ b : Bool, (Str.ofString (if b = true then ",)" else ")")).length ≤ 2 := by
  refine ⟨?_, ?_, ?_, fun b => ?_⟩
  · rw [PySem.ofString_length]; rfl
  · rw [PySem.ofString_length]; rfl
  · rw [PySem.ofString_length]; rfl
  · cases b <;> rw [PySem.ofString_length] <;> decide
theorem Sh.tup {k d : Nat} {xs : List PyData} (h : ∀ x ∈ xs, Sh k d x) {K : Nat} (hK : xs.length * (k + 2) + 3 ≤ K) : Sh K (d + 1) (.tuple xs) := by
  refine ⟨?_, ?_, ?_, ?_⟩
  · rw [PyData.hasDict]
    exact all_nd fun x hx => (h x hx).nd
  · rw [PyData.showable]
    exact all_sh fun x hx => (h x hx).sh
  · have := sl_join fun x hx => (h x hx).ln
    have e := one_ch
    have := e.2.2.2 (xs.length == 1)
    rw [PyData.shown_tuple, str_app, str_app]
    omega
  · have := depthK_all fun x hx => (h x hx).dp
    rw [PyData.depth]
    omega
theorem Sh.lst {k d : Nat} {xs : List PyData} (h : ∀ x ∈ xs, Sh k d x) {K : Nat} (hK : xs.length * (k + 2) + 3 ≤ K) : Sh K (d + 1) (.list xs) := by
  refine ⟨?_, ?_, ?_, ?_⟩
  · rw [PyData.hasDict]
    exact all_nd fun x hx => (h x hx).nd
  · rw [PyData.showable]
    exact all_sh fun x hx => (h x hx).sh
  · have := sl_join fun x hx => (h x hx).ln
    have e := one_ch
    rw [PyData.shown_list, str_app, str_app]
    omega
  · have := depthK_all fun x hx => (h x hx).dp
    rw [PyData.depth]
    omega
theorem Sh.bool (b : Bool) : Sh 5 0 (.bool b) := by
  refine ⟨rfl, rfl, ?_, by simp [PyData.depth]⟩
  rw [PyData.shown_bool]
  cases b <;> (rw [show Str.length _ = _ from rfl]; decide)
end K12
namespace K12
open PySem PySem.Spec PyProof.Rows L2 DL LB
structure Good (n : Nat) (x : PyData) : Prop where
  pl : Plain n x
  ns : Nst n x
  ly : x.canLay0 = true
  dp : x.depth ≤ n
theorem plain_up : ∀ {n : Nat} {x : PyData}, Plain n x → Plain (n + 1) x := by
  intro n
  induction n with
  | zero =>
    intro x h
    cases x with
    | tuple xs => exact h.elim
    | _ => exact h
  | succ n ih =>
    intro x h
    cases x with
    | tuple xs => exact ⟨h.1, h.2.1, fun y hy => ih (h.2.2 y hy)⟩
    | _ => exact h
theorem Good.up {n : Nat} {x : PyData} (h : Good n x) : Good (n + 1) x := ⟨plain_up h.pl, h.ns.up, h.ly, Nat.le_succ_of_le h.dp⟩
theorem Good.mono {n m : Nat} {x : PyData} (h : Good n x) (hm : n ≤ m) : Good m x := by
  induction hm with
  | refl => exact h
  | step _ ih => exact ih.up
theorem good_tup {n : Nat} {xs : List PyData} (h : ∀ y ∈ xs, Good n y) (hl : xs.length ≤ 1000) (hn : n ≤ 50) : Good (n + 1) (.tuple xs) := by
  have ly : (PyData.tuple xs).canLay0 = true := by
    rw [PyData.canLay0]
    exact layK_all fun x hx => (h x hx).ly
  have dp : (PyData.tuple xs).depth ≤ n + 1 := by
    rw [PyData.depth]
    have := depthK_all (n := n) fun x hx => (h x hx).dp
    omega
  refine ⟨⟨hl, ?_, fun y hy => (h y hy).pl⟩, fun y hy => (h y hy).ns, ly, dp⟩
  unfold SeqAt.shaped
  rw [ly, Bool.true_and, decide_eq_true_iff]
  omega
theorem good_str {n : Nat} {w : Str} (h : (PyData.str w).canLay0 = true) : Good n (.str w) := ⟨by cases n <;> trivial, nst_atom rfl, h, by rw [PyData.depth]; exact Nat.zero_le _⟩
theorem good_int {n : Nat} {i : Int} (h : B 1000 i) : Good n (.int i) := ⟨by cases n <;> exact h, nst_atom rfl, by rw [PyData.canLay0], by rw [PyData.depth]; exact Nat.zero_le _⟩
theorem good_pt {q : Pt} (h : q.G) : Good 2 q.py := by
  have b : ∀ {k : Nat} {i : Int}, B k i → k ≤ 1000 → Good 0 (.int i) := fun h hk => good_int (B_mono h hk)
  refine good_tup (fun y hy => ?_) (by simp) (by decide)
  simp only [List.mem_cons, List.not_mem_nil, or_false] at hy
  rcases hy with rfl | rfl
  · refine good_tup (fun y hy => ?_) (by simp) (by decide)
    simp only [List.mem_cons, List.not_mem_nil, or_false] at hy
    rcases hy with rfl | rfl
    · exact b h.ba (by decide)
    · exact b h.bb (by decide)
  · refine good_tup (fun y hy => ?_) (by simp) (by decide)
    simp only [List.mem_cons, List.not_mem_nil, or_false] at hy
    rcases hy with rfl | rfl
    · exact b h.bc (by decide)
    · exact b h.bd (by decide)
theorem lay_near {w : Str} (h : w ∈ nearW) : (PyData.str w).canLay0 = true := by
  simp only [nearW, List.mem_cons, List.not_mem_nil, or_false] at h
  rcases h with rfl | rfl | rfl <;> decide +kernel
theorem lay_pair {w : Str} (h : w ∈ pairW) : (PyData.str w).canLay0 = true := by
  simp only [pairW, List.mem_cons, List.not_mem_nil, or_false] at h
  rcases h with rfl | rfl | rfl <;> decide +kernel
theorem fg_good {n : Nat} {x : PyData} (h : Fg n x) : n ≤ 40 → Good (n + 3) x := by
  induction h with
  | @spot n q h =>
    intro hn
    refine good_tup (fun y hy => ?_) (by simp) (by omega)
    simp only [List.mem_cons, List.not_mem_nil, or_false] at hy
    rcases hy with rfl | rfl
    · exact good_str (by decide +kernel)
    · exact (good_pt h).mono (by omega)
  | @line n w ps h hp =>
    intro hn
    refine good_tup (fun y hy => ?_) (by simp) (by omega)
    simp only [List.mem_cons, List.not_mem_nil, or_false] at hy
    rcases hy with rfl | rfl
    · refine good_str ?_
      rcases h with rfl | rfl <;> decide +kernel
    · refine (good_tup (n := 2) (fun y hy => ?_) (by rw [List.length_map]; have := hp.2; omega) (by decide)).mono (by omega)
      obtain ⟨q, hq, rfl⟩ := List.mem_map.mp hy
      exact good_pt (hp.1 q hq)
  | @one n w x h a ih =>
    intro hn
    have := ih (by omega)
    refine good_tup (fun y hy => ?_) (by simp) (by omega)
    simp only [List.mem_cons, List.not_mem_nil, or_false] at hy
    rcases hy with rfl | rfl
    · exact good_str (lay_near h)
    · exact this
  | @two n w x y h a b ih1 ih2 =>
    intro hn
    have g1 := ih1 (by omega)
    have g2 := ih2 (by omega)
    refine good_tup (fun y hy => ?_) (by simp) (by omega)
    simp only [List.mem_cons, List.not_mem_nil, or_false] at hy
    rcases hy with rfl | rfl | rfl
    · exact good_str (lay_pair h)
    · exact g1
    · exact g2
theorem repr_bools {xs : List Bool} {st : Sto} {Q : Kd} (hl : xs.length ≤ 20) (k : Q (.d (.str (PyData.list (xs.map .bool)).shown)) st) : cRepr [.d (.list (xs.map .bool))] st Q := by
  have h : Sh 1000 1 (.list (xs.map .bool)) := Sh.lst (k := 5) (d := 0) (fun x hx => by
    obtain ⟨b, _, rfl⟩ := List.mem_map.mp hx
    exact Sh.bool b) (by rw [List.length_map]; omega)
  exact ⟨h.nd, h.sh, Nat.le_trans h.ln (by decide), Nat.le_trans h.dp (by decide), k⟩
theorem repr_bool {b : Bool} {st : Sto} {Q : Kd} (h : Q (.d (.str (PyData.bool b).shown)) st) : cRepr [.d (.bool b)] st Q := by
  refine ⟨rfl, by cases b <;> rfl, ?_, ?_, h⟩
  · cases b <;> decide
  · cases b <;> decide
end K12
namespace K12
open PySem PySem.Spec PyProof.Rows L2 DL LB
theorem put_self {st : Sto} {p : Addr} {ys : List D} (h : st p = some ys) : put st p ys = st := by
  funext z
  by_cases ez : z = p
  · rw [ez, put_same, h]
  · rw [put_ne ez]
theorem bent_row {p q : Addr} {o1 o3 o4 : Option D} {st : Sto} {Q : Kd} {fs : List PyData} {zs : List D} {n : Nat} (hpq : p ≠ q) (hq : st q = some (fs.map D.d)) (hp : st p = some zs) (hz : SprL zs n) (hn : n + 26 * fs.length < 2 ^ 40) (hl : fs.length ≤ 100) (hf : ∀ f ∈ fs, Good 12 f)
    (k : ∀ ys ws, ys.length = fs.length → (∀ y ∈ ys, Nst 17 y) → SprL ws (n + 26 * fs.length) → Q (.d (.list ys)) (put st p ws)) :
    dLcV (dIter (dVar 2)) 4 dYes (dFn0 sp_bent (dCons (dVar 0) (dCons (dVar 4) dNil))) [some (.own p), o1, some (.own q), o3, o4] st Q := by
  refine ⟨_, rfl, fs.map D.d, hq, fun j acc st2 => ∃ ys ws, acc = ys.map D.d ∧ ys.length = j ∧ j ≤ fs.length ∧ (∀ y ∈ ys, Nst 17 y) ∧ st2 = put st p ws ∧ SprL ws (n + 26 * j), ⟨[], zs, rfl, rfl, Nat.zero_le _, (fun _ h => nomatch h), (put_self hp).symm, hz⟩, ?_⟩
  rintro j acc st2 ⟨ys, ws, rfl, hj, hjl, hy, rfl, hw⟩
  refine ⟨fun a ds z => ?_, fun hd => ?_, fun d hd => ?_⟩
  · cases z
    rw [put_ne hpq.symm]
    exact hq
  · have hd : (fs.map D.d).length ≤ j := hd
    rw [List.length_map] at hd
    have : j = fs.length := by omega
    subst this
    exact ⟨ys, pures_map _, k ys ws hj hy hw⟩
  · have hd : (fs.map D.d)[j]? = some d := hd
    rw [List.getElem?_map] at hd
    cases ef : fs[j]? with
    | none =>
      rw [ef] at hd
      cases hd
    | some f =>
      rw [ef] at hd
      cases hd
      have hjl' : j < fs.length := (List.getElem?_eq_some_iff.mp ef).1
      have g := hf f (List.mem_of_getElem? ef)
      refine ⟨_, rfl, _, rfl, g.pl, g.ns, n + 26 * j, ws, put_same, hw, by omega, ?_⟩
      rintro _ us ⟨y, rfl, hy'⟩ hu
      rw [put_put]
      refine ⟨by rw [List.length_map, hj]; exact Nat.lt_of_lt_of_le (show j < 100 by omega) (by decide), ys ++ [y], us, by simp, by rw [List.length_append, hj]; rfl, hjl', fun z hz => ?_, rfl, hu.mono (by omega)⟩
      rcases List.mem_append.mp hz with h | h
      · exact hy z h
      · rw [List.mem_singleton.mp h]
        exact hy'
theorem r_right : ∀ ds st Q, sp_right ds st Q → b_right { nx := fun _ s' => RQ Q (.d .none) s', rt := RQ Q } (startD N_right ds) st := by
  rintro ds st Q ⟨p, rfl, ⟨xs, hst, hx⟩, k⟩
  show b_right _ [some (.own p), none, none, none, none] st
  refine ⟨_, rfl, 0, xs, hst, hx, by decide, ?_⟩
  rintro _ zs ⟨x, y, s, u, w, rfl, F⟩ hz
  refine .inl ?_
  show dSeq b_right_2 _ _ [some (.own p), some (.d (frP x y s u w)), none, none, none] _
  refine ⟨_, rfl, _, rfl, big_ok (by decide), .inr fun q hq => ?_⟩
  have hpq : p ≠ q := fun e => by
    rw [← e, put_same] at hq
    cases hq
  refine ⟨p, x, y, s, u, w, 3, q, rfl, Nat.le_refl 3, F, 2, zs, 10, by rw [put_ne hpq, put_same], hz, by decide, hpq, put_same, by decide, by decide, ?_⟩
  rintro _ us m' ⟨f1, rfl, hf1⟩ hu _ _
  rw [put_sw hpq]
  generalize hs1 : put (put (put st p us) q [I 10]) q [I m'] = s1
  have p1 : s1 p = some us := by rw [← hs1, put_ne hpq, put_ne hpq, put_same]
  clear hs1
  refine ⟨_, rfl, _, rfl, F, _, us, p1, hu, by decide, ?_⟩
  rintro _ vs ⟨f2, rfl, hf2⟩ hv
  refine ⟨_, rfl, _, rfl, F, _, vs, put_same, hv, by decide, ?_⟩
  rintro _ ws ⟨f3, rfl, hf3⟩ hw
  rw [put_put]
  refine ⟨_, rfl, _, rfl, F, _, ws, put_same, hw, by decide, ?_⟩
  rintro _ ys ⟨f4, rfl, hf4⟩ hy
  rw [put_put]
  refine ⟨big_ok (by simp), .inr fun q2 hq2 => .inl ?_⟩
  have hpq2 : p ≠ q2 := fun e => by
    rw [← e, put_same] at hq2
    cases hq2
  have G : ∀ f ∈ ([f1, f2, f3, f4] : List PyData), Good 12 f := fun f hf => by
    simp only [List.mem_cons, List.not_mem_nil, or_false] at hf
    rcases hf with rfl | rfl | rfl | rfl
    · exact (fg_good hf1 (by decide)).mono (by decide)
    · exact (fg_good hf2 (by decide)).mono (by decide)
    · exact (fg_good hf3 (by decide)).mono (by decide)
    · exact (fg_good hf4 (by decide)).mono (by decide)
  generalize hs2 : put (put s1 p ys) q2 [D.d f1, D.d f2, D.d f3, D.d f4] = s2
  have p2 : s2 p = some ys := by rw [← hs2, put_ne hpq2, put_same]
  have l2 : s2 q2 = some (([f1, f2, f3, f4] : List PyData).map D.d) := by rw [← hs2, put_same]; rfl
  clear hs2
  show dSeq b_right_3 _ _ [some (.own p), some (.d (frP x y s u w)), some (.own q2), none, none] _
  refine ⟨_, rfl, ?_⟩
  refine bent_row hpq2 l2 p2 hy (by show _ + 26 * 4 < _; decide) (by simp) G fun bs zs hbl hbn hz => ?_
  have l3 : (put s2 p zs) q2 = some (([f1, f2, f3, f4] : List PyData).map D.d) := by rw [put_ne hpq2.symm]; exact l2
  refine ⟨_, bs.map D.d, l3, rfl, big_ok (by have h4 : bs.length = 4 := hbl; rw [List.length_map, List.length_map, h4]; simp), .inr fun q3 hq3 => ?_⟩
  have hpq3 : p ≠ q3 := fun e => by
    rw [← e, put_same] at hq3
    cases hq3
  have hq23 : q2 ≠ q3 := fun e => by
    rw [← e, l3] at hq3
    cases hq3
  have h4 : bs.length = 4 := hbl
  generalize hs3 : put (put s2 p zs) q3 (([f1, f2, f3, f4] : List PyData).map D.d ++ bs.map D.d) = s3
  have p3 : s3 p = some zs := by rw [← hs3, put_ne hpq3, put_same]
  have m2 : s3 q2 = some (([f1, f2, f3, f4] : List PyData).map D.d) := by rw [← hs3, put_ne hq23]; exact l3
  have m3 : s3 q3 = some ((([f1, f2, f3, f4] : List PyData) ++ bs).map D.d) := by rw [← hs3, put_same, List.map_append]
  clear hs3
  have g1 := G f1 (by simp)
  refine ⟨_, rfl, _, rfl, _, _, m2, atI_nat (j := 0) rfl, g1.pl, g1.ns, _, zs, p3, hz, by show _ + 26 * 4 + _ < _; decide, ?_⟩
  rintro _ z1 ⟨b1, rfl, nb1⟩ hz1
  refine ⟨_, rfl, _, z1, put_same, hz1, by show _ + 26 * 4 + _ + _ < _; decide, ?_⟩
  rintro _ z2 ⟨o1, rfl, no1⟩ hz2
  rw [put_put]
  refine ⟨_, rfl, _, z2, put_same, hz2, by show _ + 26 * 4 + _ + _ + _ < _; decide, ?_⟩
  rintro _ z3 ⟨o2, rfl, no2⟩ hz3
  rw [put_put]
  refine ⟨big_ok (by simp), ?_⟩
  have m4 : (put s3 p z3) q3 = some ((([f1, f2, f3, f4] : List PyData) ++ bs).map D.d) := by rw [put_ne hpq3.symm]; exact m3
  refine ⟨_, ([b1, o1, o2] : List PyData).map D.d, m4, rfl, big_ok (by rw [List.length_map, List.length_map, List.length_append, h4]; simp), .inr fun q4 hq4 => .inl ?_⟩
  have hpq4 : p ≠ q4 := fun e => by
    rw [← e, put_same] at hq4
    cases hq4
  generalize hs4 : put (put s3 p z3) q4 ((([f1, f2, f3, f4] : List PyData) ++ bs).map D.d ++ ([b1, o1, o2] : List PyData).map D.d) = s4
  have p4 : s4 p = some z3 := by rw [← hs4, put_ne hpq4, put_same]
  have m5 : s4 q4 = some (((([f1, f2, f3, f4] : List PyData) ++ bs) ++ [b1, o1, o2]).map D.d) := by rw [← hs4, put_same, List.map_append (l₁ := _ ++ _)]
  clear hs4
  show dSeq b_right_4 _ _ [some (.own p), some (.d (frP x y s u w)), some (.own q4), none, none] _
  refine ⟨_, rfl, by rw [m5]; rfl, _, rfl, big_ok (by decide), one_tup p4 hz3 (by show _ + 26 * 4 + _ + _ + _ + _ < _; decide) (by decide) (by decide) fun v z4 hv hz4 => ?_⟩
  obtain ⟨w2, rfl, _⟩ := str_of (ws := ["rim", "both", "spot", "area", "path", "less"]) hv
  refine ⟨_, rfl, _, z4, put_same, hz4, by show _ + 26 * 4 + _ + _ + _ + _ + _ < _; decide, ?_⟩
  rintro _ z5 ⟨o3, rfl, no3⟩ hz5
  rw [put_put]
  have m6 : (put s4 p z5) q4 = some (((([f1, f2, f3, f4] : List PyData) ++ bs) ++ [b1, o1, o2]).map D.d) := by rw [put_ne hpq4.symm]; exact m5
  refine ⟨big_ok (by simp), _, m6, Nat.lt_of_le_of_lt (show _ ≤ 20 by rw [List.length_map, List.length_append, List.length_append, h4]; simp) (by decide), ?_⟩
  generalize hX : ((([f1, f2, f3, f4] : List PyData) ++ bs) ++ [b1, o1, o2]) ++ [.tuple [.str w2, o3]] = X
  have hXl : X.length = 12 := by rw [← hX, List.length_append, List.length_append, List.length_append, h4]; rfl
  have hXn : ∀ z ∈ X, Nst 20 z := by
    intro z hz
    rw [← hX] at hz
    rcases List.mem_append.mp hz with hz | hz
    · rcases List.mem_append.mp hz with hz | hz
      · rcases List.mem_append.mp hz with hz | hz
        · exact (G z hz).ns.mono (by decide)
        · exact (hbn z hz).mono (by decide)
      · simp only [List.mem_cons, List.not_mem_nil, or_false] at hz
        rcases hz with rfl | rfl | rfl
        · exact nb1.mono (by decide)
        · exact no1.mono (by decide)
        · exact no2.mono (by decide)
    · rw [List.mem_singleton.mp hz]
      intro t ht
      simp only [List.mem_cons, List.not_mem_nil, or_false] at ht
      rcases ht with rfl | rfl
      · exact nst_atom rfl
      · exact no3.mono (by decide)
  have eX : (((([f1, f2, f3, f4] : List PyData) ++ bs) ++ [b1, o1, o2]).map D.d) ++ [D.d (.tuple [.str w2, o3])] = X.map D.d := by
    rw [← hX]
    simp only [List.map_append]
    rfl
  rw [eX]
  generalize hs5 : put (put s4 p z5) q4 (X.map D.d) = s5
  have m7 : s5 q4 = some (X.map D.d) := by rw [← hs5, put_same]
  clear hs5
  have hl : X.length < sizeLine := by rw [hXl]; decide
  have at_ : ∀ a ds, some (q4, X.map D.d) = some (a, ds) → s5 a = some ds := fun a ds z => by
    cases z
    exact m7
  show dLcV (dIter (dVar 2)) 4 dYes (dFn0 sp_is_due (dCons (dVar 4) dNil)) [some (.own p), some (.d (frP x y s u w)), some (.own q4), none, none] s5 _
  refine lcV_mapK X D.d (fun z => .bool (figB z)) (some (q4, X.map D.d)) at_ (fun R hR => ⟨_, rfl, _, m7, hR⟩) hl (fun z hz K hK => ⟨_, rfl, z, rfl, hXn z hz, hK⟩) (.inl ?_)
  have eB : (X.map fun z => PyData.bool (figB z)) = (X.map figB).map .bool := by rw [List.map_map]; rfl
  rw [eB]
  show b_right_6 _ [some (.own p), some (.d (frP x y s u w)), some (.own q4), some (.d (.list ((X.map figB).map .bool))), none] s5
  have hB : (X.map figB).length ≤ 20 := by rw [List.length_map, hXl]; decide
  show dLcV (dIter (dVar 2)) 4 dYes (dFn0 sp_is_figure (dCons (dVar 4) dNil)) _ s5 _
  refine lcV_mapK X D.d (fun z => .bool (figB z)) (some (q4, X.map D.d)) at_ (fun R hR => ⟨_, rfl, _, m7, hR⟩) hl (fun z hz K hK => ⟨_, rfl, z, rfl, hK⟩) ?_
  rw [eB]
  simp only [DL.dNil]
  refine repr_bools hB ?_
  refine ⟨_, rfl, ?_⟩
  simp only [DL.dNil]
  refine repr_bools hB ?_
  show if decide ((PyData.list ((X.map figB).map .bool)).shown = (PyData.list ((X.map figB).map .bool)).shown) = true then _ else _
  rw [if_pos (decide_eq_true rfl)]
  have h4X : 4 < X.length := by omega
  have x4 : X[4]? = some X[4] := List.getElem?_eq_getElem h4X
  refine ⟨_, rfl, _, _, m7, atI_nat (j := 4) (by rw [List.getElem?_map, x4]; rfl), X[4], rfl, ?_⟩
  simp only [DL.dNil]
  refine repr_bool ?_
  refine ⟨_, rfl, _, _, rfl, atI_nat (j := 4) (by rw [List.getElem?_map, List.getElem?_map, List.getElem?_map, x4]; rfl), ?_⟩
  simp only [DL.dNil]
  refine repr_bool ?_
  show frz _ (.d (.bool (decide ((PyData.bool (figB X[4])).shown = (PyData.bool (figB X[4])).shown)))) s5
  rw [decide_eq_true rfl]
  exact .inl (RQ.of (k _))
end K12
namespace K12
open PySem PySem.Spec PyProof.Rows L2 DL LB
theorem r_law : ∀ ds st Q, sp_law ds st Q → b_law { nx := fun _ s' => Q (.d .none) s', rt := Q } (startD N_law ds) st := by
  intro ds st Q h
  unfold sp_law at h
  split at h
  · rename_i ns
    obtain ⟨hl, k⟩ := h
    show b_law _ [some (.scr ns), none] st
    have e1 : (ns.map fun n => D.d (.int n)).length = ns.length := by rw [List.length_map]
    refine ⟨_, rfl, _, rfl, trivial, trivial, ?_⟩
    rw [e1]
    have hb : 0 ≤ (if (if (4 : Int) < (ns.length : Int) then (4 : Int) else (ns.length : Int)) > 2 then (if (4 : Int) < (ns.length : Int) then (4 : Int) else (ns.length : Int)) else (2 : Int)) ∧ (if (if (4 : Int) < (ns.length : Int) then (4 : Int) else (ns.length : Int)) > 2 then (if (4 : Int) < (ns.length : Int) then (4 : Int) else (ns.length : Int)) else (2 : Int)) ≤ 4 := by
      split <;> split <;> omega
    refine ⟨by omega, by omega, ?_⟩
    refine ⟨fun j acc _ => acc = (List.replicate j (PyData.bool true)).map D.d ∧ j ≤ 4, ⟨rfl, by decide⟩, ?_⟩
    rintro j acc st2 ⟨rfl, hj⟩
    refine ⟨(fun a ds z => nomatch z), (fun hd => ?_), fun d hd => ?_⟩
    · refine ⟨_, pures_map _, ?_⟩
      simp only [DL.dNil]
      refine ⟨List.replicate j true, ?_, ?_⟩
      · show some ((List.replicate j (PyData.bool true)).map D.d) = _
        rw [List.map_replicate, List.map_replicate]
      · have : (List.replicate j true).all _root_.id = true := by
          rw [List.all_eq_true]
          intro x hx
          exact (List.mem_replicate.mp hx).2
        rw [this]
        exact .inl (k _)
    · have key : ∀ (M : Int), M ≤ 4 → ((List.range M.toNat).map fun (i : Nat) => D.d (.int (0 + i)))[j]? = some d → d = D.d (.int (0 + (j : Nat))) ∧ j < 4 := by
        intro M hM hd
        have hj' : j < M.toNat := by
          have := (List.getElem?_eq_some_iff.mp hd).1
          rw [List.length_map, List.length_range] at this
          exact this
        rw [List.getElem?_map, List.getElem?_range hj'] at hd
        cases hd
        exact ⟨rfl, by omega⟩
      obtain ⟨rfl, hj'⟩ := key _ hb.2 hd
      refine ⟨_, rfl, _, rfl, hl, by omega, by omega, fun p xs hp hx => ?_⟩
      simp only [DL.dNil]
      refine ⟨p, rfl, ⟨xs, put_same, hx⟩, fun st' => ?_⟩
      refine ⟨by rw [List.length_map, List.length_replicate]; exact Nat.lt_of_le_of_lt hj (by decide), ?_, by omega⟩
      rw [List.replicate_succ', List.map_append]
      rfl
  · exact h.elim
end K12
namespace K12
open PySem PySem.Spec PyProof.Rows L2 DL LB
section
variable [Tabs]
variable {P : Program} {w : World} {K : PySem.W.Frag} {mg : Str → Option Value} {base : Heap}
theorem t_is_whole {k : Nat} (hk : 0 ≤ k) (T : Tx K mg base)  (f : Addr) (cd : Value) (A : Around) (outer : List Env) (s : Shared) (H : Hp) (E : XK) (hG : A.guards = some []) (hr : Room k (A.deeper (envOfC "is_whole" (defScope s_is_whole) s.heap.objs.size f cd))) :
    PDSs (cxD P w K mg base N_is_whole "is_whole" (defScope s_is_whole) f cd A outer s H E) (defBody s_is_whole) b_is_whole :=
  (pss_done (psd_ret (pd_and (pd_is rfl T.n_isinstance rfl T.n_int bt_int (pd 0) bt_isinstance) (pd_one (pd_not (pd_is rfl T.n_isinstance rfl T.n_bool bt_bool (pd 0) bt_isinstance))))))
theorem t_is_row {k : Nat} (hk : 0 ≤ k) (T : Tx K mg base)  (f : Addr) (cd : Value) (A : Around) (outer : List Env) (s : Shared) (H : Hp) (E : XK) (hG : A.guards = some []) (hr : Room k (A.deeper (envOfC "is_row" (defScope s_is_row) s.heap.objs.size f cd))) :
    PDSs (cxD P w K mg base N_is_row "is_row" (defScope s_is_row) f cd A outer s H E) (defBody s_is_row) b_is_row :=
  (pss_done (psd_ret (pd_and (pd_is rfl T.n_isinstance rfl T.n_tuple bt_tuple (pd 0) bt_isinstance) (pd_one (pd_chain o_le o_le (pd 1) (pd_callB c_len rfl T.n_len bt_len (pda_cons (pd 0) pda_nil)) (pd 2))))))
theorem t_is_fraction {k : Nat} (hk : 1 ≤ k) (T : Tx K mg base) (c_is_row : Can P w K mg base 1 "is_row" s_is_row ["value", "low", "high"] sp_is_row) (c_is_whole : Can P w K mg base 1 "is_whole" s_is_whole ["value"] sp_is_whole) (f : Addr) (cd : Value) (A : Around) (outer : List Env) (s : Shared) (H : Hp) (E : XK) (hG : A.guards = some []) (hr : Room k (A.deeper (envOfC "is_fraction" (defScope s_is_fraction) s.heap.objs.size f cd))) :
    PDSs (cxD P w K mg base N_is_fraction "is_fraction" (defScope s_is_fraction) f cd A outer s H E) (defBody s_is_fraction) b_is_fraction :=
  (pss_dcons (psd_if (pdt_w (pdw_or (pdt_not (pdt_val (pd_call c_is_row hG (hr.mono (by omega)) rfl (pda_cons (pd 0) (pda_cons pd_int (pda_cons pd_int pda_nil)))))) (pdw_or (pdt_not (pdt_val (pd_call c_is_whole hG (hr.mono (by omega)) rfl (pda_cons (pd_ix (pd 0) pd_int (fun _ _ => rfl)) pda_nil)))) (pdw_or1 (pdt_not (pdt_val (pd_call c_is_whole hG (hr.mono (by omega)) rfl (pda_cons (pd_ix (pd 0) pd_int (fun _ _ => rfl)) pda_nil)))))))) (pss_done (psd_ret pd_bl)) pss_dnil) (pss_done (psd_ret (pd_and (pd_cmp o_gt (pd_ix (pd 0) pd_int (fun _ _ => rfl)) pd_int (nomark _)) (pd_one (pd_cmp (o_eq hr.units) (pd_callM c_gcd rfl T.m_gcd (pda_cons (pd_ix (pd 0) pd_int (fun _ _ => rfl)) (pda_cons (pd_ix (pd 0) pd_int (fun _ _ => rfl)) pda_nil))) pd_int (nomark _)))))))
theorem t_is_place {k : Nat} (hk : 2 ≤ k) (T : Tx K mg base) (c_is_row : Can P w K mg base 1 "is_row" s_is_row ["value", "low", "high"] sp_is_row) (c_is_fraction : Can P w K mg base 2 "is_fraction" s_is_fraction ["value"] sp_is_fraction) (f : Addr) (cd : Value) (A : Around) (outer : List Env) (s : Shared) (H : Hp) (E : XK) (hG : A.guards = some []) (hr : Room k (A.deeper (envOfC "is_place" (defScope s_is_place) s.heap.objs.size f cd))) :
    PDSs (cxD P w K mg base N_is_place "is_place" (defScope s_is_place) f cd A outer s H E) (defBody s_is_place) b_is_place :=
  (pss_done (psd_ret (pd_and (pd_call c_is_row hG (hr.mono (by omega)) rfl (pda_cons (pd 0) (pda_cons pd_int (pda_cons pd_int pda_nil)))) (pd_and (pd_call c_is_fraction hG (hr.mono (by omega)) rfl (pda_cons (pd_ix (pd 0) pd_int (fun _ _ => rfl)) pda_nil)) (pd_one (pd_call c_is_fraction hG (hr.mono (by omega)) rfl (pda_cons (pd_ix (pd 0) pd_int (fun _ _ => rfl)) pda_nil)))))))
theorem t_is_line {k : Nat} (hk : 4 ≤ k) (T : Tx K mg base) (c_is_row : Can P w K mg base 1 "is_row" s_is_row ["value", "low", "high"] sp_is_row) (c_is_place : Can P w K mg base 3 "is_place" s_is_place ["value"] sp_is_place) (f c PT : Addr) (hPT : PT ∈ (Tabs.tp : List Addr)) (TB : GxR.TabB base mg c PT) (A : Around) (outer : List Env) (s : Shared) (H : Hp) (E : XK) (hG : A.guards = some []) (hr : Room k (A.deeper (envOfC "is_line" (defScope s_is_line) s.heap.objs.size f (.ref c)))) :
    PDSs (cxD P w K mg base N_is_line "is_line" (defScope s_is_line) f (.ref c) A outer s H E) (defBody s_is_line) b_is_line :=
  (pss_dcons (psd_if (pdt_w (pdw_or (pdt_not (pdt_val (pd_call c_is_row hG (hr.mono (by omega)) rfl (pda_cons (pd 0) (pda_cons (pd 1) (pda_cons (pd_gint rfl T.g_MOST_ON_LINE) pda_nil)))))) (pdw_or1 (pdt_not (pdt_val (pd_all (k := k - 1) (x := "point") (fvs := []) (hr.mono (by omega)) rfl rfl T.n_all hPT TB rfl (gsc_by (N := N_is_line) (sc := defScope s_is_line) rfl rfl (by decide +kernel)) (by decide) (pdi_seq (pd 0)) (fun _ _ _ _ _ => have hr := gx_room (k := k - 1) (hr.mono (by omega)); (pd_call c_is_place hG (hr.mono (by omega)) rfl (pda_cons (pd 0) pda_nil))))))))) (pss_done (psd_ret pd_bl)) pss_dnil) (pss_done (psd_ret (pd_all (k := k - 1) (x := "at") (fvs := [("value", 0)]) (hr.mono (by omega)) rfl rfl T.n_all hPT TB rfl (gsc_by (N := N_is_line) (sc := defScope s_is_line) rfl rfl (by decide +kernel)) (by decide) (pdi_rng1 rfl T.n_range (pda_cons (pd_bin o_sub (pd_callB c_len rfl T.n_len bt_len (pda_cons (pd 0) pda_nil)) pd_int) pda_nil)) (fun _ _ _ _ _ => have hr := gx_room (k := k - 1) (hr.mono (by omega)); (pd_cmp (o_ne hr.units) (pd_ix (pd 1) (pd 0) (fun _ _ => rfl)) (pd_ix (pd 1) (pd_bin o_add (pd 0) pd_int) (fun _ _ => rfl)) (nomark _)))))))
theorem t_is_basic {k : Nat} (hk : 5 ≤ k) (T : Tx K mg base) (c_is_place : Can P w K mg base 3 "is_place" s_is_place ["value"] sp_is_place) (c_is_line : Can P w K mg base 5 "is_line" s_is_line ["value", "least"] sp_is_line) (f : Addr) (cd : Value) (A : Around) (outer : List Env) (s : Shared) (H : Hp) (E : XK) (hG : A.guards = some []) (hr : Room k (A.deeper (envOfC "is_basic" (defScope s_is_basic) s.heap.objs.size f cd))) :
    PDSs (cxD P w K mg base N_is_basic "is_basic" (defScope s_is_basic) f cd A outer s H E) (defBody s_is_basic) b_is_basic :=
  (pss_dcons (psd_if (pdt_cmp (o_eq hr.units) (pd 0) pd_str (nomark _)) (pss_done (psd_ret (pd_call c_is_place hG (hr.mono (by omega)) rfl (pda_cons (pd 1) pda_nil)))) pss_dnil) (pss_dcons (psd_if (pdt_cmp (o_eq hr.units) (pd 0) pd_str (nomark _)) (pss_done (psd_ret (pd_call c_is_line hG (hr.mono (by omega)) rfl (pda_cons (pd 1) (pda_cons pd_int pda_nil))))) pss_dnil) (pss_done (psd_ret (pd_and (pd_cmp (o_eq hr.units) (pd 0) pd_str (nomark _)) (pd_and (pd_call c_is_line hG (hr.mono (by omega)) rfl (pda_cons (pd 1) (pda_cons pd_int pda_nil))) (pd_one (pd_cmp (o_ne hr.units) (pd_ix (pd 1) pd_int (fun _ _ => rfl)) (pd_ix (pd 1) (pd_neg pd_int) (fun _ _ => rfl)) (nomark _)))))))))
theorem t_is_figure_form {k : Nat} (hk : 6 ≤ k) (T : Tx K mg base) (c_is_row : Can P w K mg base 1 "is_row" s_is_row ["value", "low", "high"] sp_is_row) {sp_self : SpD} (c_self : CanD P w K mg base k "is_figure_form" [V.int 6] ["value", "deep"] sp_self) (c_is_basic : Can P w K mg base 6 "is_basic" s_is_basic ["kind", "told"] sp_is_basic) (f : Addr) (cd : Value) (A : Around) (outer : List Env) (s : Shared) (H : Hp) (E : XK) (hG : A.guards = some []) (hr : Room k (A.deeper (envOfC "is_figure_form" (defScope s_is_figure_form) s.heap.objs.size f cd))) :
    PDSs (cxD P w K mg base N_is_figure_form "is_figure_form" (defScope s_is_figure_form) f cd A outer s H E) (defBody s_is_figure_form) (b_is_figure_form sp_self) :=
  (pss_dcons (psd_if (pdt_w (pdw_or (pdt_cmp (o_eq hr.units) (pd 1) pd_int (nomark _)) (pdw_or (pdt_not (pdt_val (pd_call c_is_row hG (hr.mono (by omega)) rfl (pda_cons (pd 0) (pda_cons pd_int (pda_cons pd_int pda_nil)))))) (pdw_or1 (pdt_not (pdt_val (pd_is rfl T.n_isinstance rfl T.n_str bt_str (pd_ix (pd 0) pd_int (fun _ _ => rfl)) bt_isinstance))))))) (pss_done (psd_ret pd_bl)) pss_dnil) (pss_dcons (psd_if (pdt_cmp (o_in (u65 hr)) (pd_ix (pd 0) pd_int (fun _ _ => rfl)) (pd_gtup (ts := ["both", "either", "less"]) rfl T.g_PAIRED) (by rfl)) (pss_done (psd_ret (pd_and (pd_cmp (o_eq hr.units) (pd_callB c_len rfl T.n_len bt_len (pda_cons (pd 0) pda_nil)) pd_int (nomark _)) (pd_and (pd_callD c_self hG (hr.mono (by omega)) rfl (pda_cons (pd_ix (pd 0) pd_int (fun _ _ => rfl)) (pda_cons (pd_bin o_sub (pd 1) pd_int) pda_nil))) (pd_one (pd_callD c_self hG (hr.mono (by omega)) rfl (pda_cons (pd_ix (pd 0) pd_int (fun _ _ => rfl)) (pda_cons (pd_bin o_sub (pd 1) pd_int) pda_nil)))))))) pss_dnil) (pss_dcons (psd_if (pdt_cmp (o_ne hr.units) (pd_callB c_len rfl T.n_len bt_len (pda_cons (pd 0) pda_nil)) pd_int (nomark _)) (pss_done (psd_ret pd_bl)) pss_dnil) (pss_dcons (psd_if (pdt_cmp (o_in (u65 hr)) (pd_ix (pd 0) pd_int (fun _ _ => rfl)) (pd_gtup (ts := ["closure", "inner", "rim"]) rfl T.g_NEARBY) (by rfl)) (pss_done (psd_ret (pd_callD c_self hG (hr.mono (by omega)) rfl (pda_cons (pd_ix (pd 0) pd_int (fun _ _ => rfl)) (pda_cons (pd_bin o_sub (pd 1) pd_int) pda_nil))))) pss_dnil) (pss_done (psd_ret (pd_call c_is_basic hG (hr.mono (by omega)) rfl (pda_cons (pd_ix (pd 0) pd_int (fun _ _ => rfl)) (pda_cons (pd_ix (pd 0) pd_int (fun _ _ => rfl)) pda_nil)))))))))
theorem t_basics_of {k : Nat} (hk : 0 ≤ k) (T : Tx K mg base) {sp_self : SpD} (c_self : Can P w K mg base k "basics_of" s_basics_of ["figure"] sp_self) (f : Addr) (cd : Value) (A : Around) (outer : List Env) (s : Shared) (H : Hp) (E : XK) (hG : A.guards = some []) (hr : Room k (A.deeper (envOfC "basics_of" (defScope s_basics_of) s.heap.objs.size f cd))) :
    PDSs (cxD P w K mg base N_basics_of "basics_of" (defScope s_basics_of) f cd A outer s H E) (defBody s_basics_of) (b_basics_of sp_self) :=
  (pss_dcons (psd_if (pdt_cmp (o_in (u65 hr)) (pd_ix (pd 0) pd_int (fun _ _ => rfl)) (pd_gtup (ts := ["both", "either", "less"]) rfl T.g_PAIRED) (by rfl)) (pss_done (psd_ret (pd_bin o_add (pd_call c_self hG (hr.mono (by omega)) rfl (pda_cons (pd_ix (pd 0) pd_int (fun _ _ => rfl)) pda_nil)) (pd_call c_self hG (hr.mono (by omega)) rfl (pda_cons (pd_ix (pd 0) pd_int (fun _ _ => rfl)) pda_nil))))) pss_dnil) (pss_dcons (psd_if (pdt_cmp (o_in (u65 hr)) (pd_ix (pd 0) pd_int (fun _ _ => rfl)) (pd_gtup (ts := ["closure", "inner", "rim"]) rfl T.g_NEARBY) (by rfl)) (pss_done (psd_ret (pd_call c_self hG (hr.mono (by omega)) rfl (pda_cons (pd_ix (pd 0) pd_int (fun _ _ => rfl)) pda_nil)))) pss_dnil) (pss_done (psd_ret (pd_tup (pda_cons (pd 0) pda_nil))))))
theorem t_lines_of_basic {k : Nat} (hk : 0 ≤ k) (T : Tx K mg base)  (f : Addr) (cd : Value) (A : Around) (outer : List Env) (s : Shared) (H : Hp) (E : XK) (hG : A.guards = some []) (hr : Room k (A.deeper (envOfC "lines_of_basic" (defScope s_lines_of_basic) s.heap.objs.size f cd))) :
    PDSs (cxD P w K mg base N_lines_of_basic "lines_of_basic" (defScope s_lines_of_basic) f cd A outer s H E) (defBody s_lines_of_basic) b_lines_of_basic :=
  (pss_dcons (psd_asg (pd 0) (pdg_tup (n := 2) rfl (pdgs_cons (pdg_name (i := 1) sc_lines_of_basic.nd rfl (by first | exact .inl rfl | exact .inr rfl)) (pdgs_cons (pdg_name (i := 2) sc_lines_of_basic.nd rfl (by first | exact .inl rfl | exact .inr rfl)) pdgs_nil)))) (pss_dcons (psd_if (pdt_cmp (o_eq hr.units) (pd 1) pd_str (nomark _)) (pss_done (psd_ret (pd_tup pda_nil))) pss_dnil) (pss_dcons (psd_set (i := 3) sc_lines_of_basic.nd rfl (by first | exact .inl rfl | exact .inr rfl) (pd_tupZip rfl rfl T.n_tuple rfl T.n_zip (pda_cons (pd 2) (pda_cons (pd_sl (pd 2) (pdo_some pd_int) pdo_none) pda_nil)))) (pss_done (psd_ret (pd_if (pdt_cmp (o_eq hr.units) (pd 1) pd_str (nomark _)) (pd_bin o_add (pd 3) (pd_tup (pda_cons (pd_tup (pda_cons (pd_ix (pd 2) (pd_neg pd_int) (fun _ _ => rfl)) (pda_cons (pd_ix (pd 2) pd_int (fun _ _ => rfl)) pda_nil))) pda_nil))) (pd 3)))))))
theorem t_lines_in {k : Nat} (hk : 12 ≤ k) (T : Tx K mg base) (c_basics_of : Can P w K mg base 12 "basics_of" s_basics_of ["figure"] sp_basics_of) (c_lines_of_basic : Can P w K mg base 1 "lines_of_basic" s_lines_of_basic ["figure"] sp_lines_of_basic) (f : Addr) (cd : Value) (A : Around) (outer : List Env) (s : Shared) (H : Hp) (E : XK) (hG : A.guards = some []) (hr : Room k (A.deeper (envOfC "lines_in" (defScope s_lines_in) s.heap.objs.size f cd))) :
    PDSs (cxD P w K mg base N_lines_in "lines_in" (defScope s_lines_in) f cd A outer s H E) (defBody s_lines_in) b_lines_in :=
  (pss_done (psd_ret (pd_callTy c_tuple rfl T.n_tuple bt_tuple (pda_cons (pd_lc2 hm_val (i := 1) (i1 := 2) rfl sc_lines_in.nd (pdi_seq (pd_call c_basics_of hG (hr.mono (by omega)) rfl (pda_cons (pd 0) pda_nil))) (blkOk_by (N := N_lines_in) (sc := defScope s_lines_in) (by decide +kernel)) (fun _ _ _ _ _ => pg_name (i := 1) sc_lines_in.nd rfl (Or.inl rfl)) (fun _ _ _ _ _ => (pdi_seq (pd_call c_lines_of_basic hG (hr.mono (by omega)) rfl (pda_cons (pd 1) pda_nil)))) (fun _ _ _ _ _ => pg_name (i := 2) sc_lines_in.nd rfl (Or.inl rfl)) (fun _ _ _ _ _ => (pd 2))) pda_nil))))
theorem t_is_figure {k : Nat} (hk : 20 ≤ k) (T : Tx K mg base) (c_is_figure_form : CanD P w K mg base 20 "is_figure_form" [V.int 6] ["value", "deep"] sp_is_figure_form) (c_lines_in : Can P w K mg base 13 "lines_in" s_lines_in ["figure"] sp_lines_in) (f : Addr) (cd : Value) (A : Around) (outer : List Env) (s : Shared) (H : Hp) (E : XK) (hG : A.guards = some []) (hr : Room k (A.deeper (envOfC "is_figure" (defScope s_is_figure) s.heap.objs.size f cd))) :
    PDSs (cxD P w K mg base N_is_figure "is_figure" (defScope s_is_figure) f cd A outer s H E) (defBody s_is_figure) b_is_figure :=
  (pss_done (psd_ret (pd_and (pd_callDd (dds := [.d (.int 6)]) c_is_figure_form (fun _ _ => (.cons (.d (.int 6)) .nil)) hG (hr.mono (by omega)) rfl (pda_cons (pd 0) pda_nil)) (pd_one (pd_cmp o_le (pd_callB c_len rfl T.n_len bt_len (pda_cons (pd_call c_lines_in hG (hr.mono (by omega)) rfl (pda_cons (pd 0) pda_nil)) pda_nil)) (pd_gint rfl T.g_MOST_SEGMENTS) (nomark _))))))
theorem t_spring {k : Nat} (hk : 0 ≤ k) (T : Tx K mg base)  (f : Addr) (cd : Value) (A : Around) (outer : List Env) (s : Shared) (H : Hp) (E : XK) (hG : A.guards = some []) (hr : Room k (A.deeper (envOfC "_law_spring" (defScope s_spring) s.heap.objs.size f cd))) :
    PDSs (cxD P w K mg base N_spring "_law_spring" (defScope s_spring) f cd A outer s H E) (defBody s_spring) b_spring :=
  (pss_dcons (psd_set (i := 2) sc_spring.nd rfl (by first | exact .inl rfl | exact .inr rfl) (pd_bin o_add pd_int (pd_bin o_mul pd_int (pd 1)))) (pss_dcons (psd_for PassesOwn.never rfl (pdi_seq (pd_sl (pd 0) pdo_none (pdo_some pd_int))) (pdg_name (i := 3) sc_spring.nd rfl (by first | exact .inl rfl | exact .inr rfl)) (pss_done (psd_set (i := 2) sc_spring.nd rfl (by first | exact .inl rfl | exact .inr rfl) (pd_bin o_mod (pd_callTy c_int rfl T.n_int bt_int (pda_cons (pd_bin o_add (pd_bin o_add (pd_bin o_mul (pd 2) pd_int) (pd_bin o_mod (pd_callTy c_int rfl T.n_int bt_int (pda_cons (pd 3) pda_nil)) pd_int)) pd_int) pda_nil)) pd_int)))) (pss_dcons (psd_set (i := 4) sc_spring.nd rfl (by first | exact .inl rfl | exact .inr rfl) (pd_if (pdt_cmp o_lt (pd 1) (pd_callB c_len rfl T.n_len bt_len (pda_cons (pd 0) pda_nil)) (nomark _)) (pd_callTy c_int rfl T.n_int bt_int (pda_cons (pd_ix (pd 0) (pd 1) (fun _ _ => rfl)) pda_nil)) pd_int)) (pss_dcons (psd_set (i := 2) sc_spring.nd rfl (by first | exact .inl rfl | exact .inr rfl) (pd_bin o_mod (pd_callTy c_int rfl T.n_int bt_int (pda_cons (pd_bin o_add (pd_bin o_add (pd_bin o_mul (pd 2) pd_int) (pd_bin o_mul (pd_bin o_mod (pd_callTy c_int rfl T.n_int bt_int (pda_cons (pd 4) pda_nil)) pd_int) pd_int)) pd_int) pda_nil)) pd_int)) (pss_done (psd_ret (pd_lst (pda_cons (pd_if (pdt_w (pdw_or (pdt_cmp o_lt (pd 4) pd_int (nomark _)) (pdw_or1 (pdt_cmp o_ge (pd 4) (pd_bin o_pow pd_int pd_int) (nomark _))))) (pd_callB c_abs rfl T.n_abs bt_abs (pda_cons (pd 4) pda_nil)) pd_int) (pda_cons (pd 2) (pda_cons pd_int pda_nil))))))))))
theorem t_draw {k : Nat} (hk : 0 ≤ k) (T : Tx K mg base)  (f : Addr) (cd : Value) (A : Around) (outer : List Env) (s : Shared) (H : Hp) (E : XK) (hG : A.guards = some []) (hr : Room k (A.deeper (envOfC "_law_draw" (defScope s_draw) s.heap.objs.size f cd))) :
    PDSs (cxD P w K mg base N_draw "_law_draw" (defScope s_draw) f cd A outer s H E) (defBody s_draw) b_draw :=
  (pss_dcons (psd_if (pdt_cmp o_gt (pd_ix (pd 0) pd_int (fun _ _ => rfl)) pd_int (nomark _)) (pss_dcons (psd_asg (pd_callB c_divmod rfl T.n_divmod bt_divmod (pda_cons (pd_ix (pd 0) pd_int (fun _ _ => rfl)) (pda_cons (pd 1) pda_nil))) (pdg_tup (n := 2) rfl (pdgs_cons (pdg_sub (pd 0) pd_int) (pdgs_cons (pdg_name (i := 2) sc_draw.nd rfl (by first | exact .inl rfl | exact .inr rfl)) pdgs_nil)))) (pss_done (psd_ret (pd 2)))) pss_dnil) (pss_dcons (psd_asg (pd_bin o_add (pd_ix (pd 0) pd_int (fun _ _ => rfl)) pd_int) (pdg_sub (pd 0) pd_int)) (pss_dcons (psd_set (i := 3) sc_draw.nd rfl (by first | exact .inl rfl | exact .inr rfl) (pd_bin o_mod (pd_callTy c_int rfl T.n_int bt_int (pda_cons (pd_bin o_add (pd_ix (pd 0) pd_int (fun _ _ => rfl)) (pd_bin o_mul pd_int (pd_ix (pd 0) pd_int (fun _ _ => rfl)))) pda_nil)) pd_int)) (pss_dcons (psd_asg (pd_bin o_mod (pd_callTy c_int rfl T.n_int bt_int (pda_cons (pd_bin o_add (pd_bin o_mul (pd 3) (pd_bin o_add (pd_bin o_mod (pd_callTy c_int rfl T.n_int bt_int (pda_cons (pd 3) pda_nil)) pd_int) pd_int)) (pd_bin o_mul pd_int (pd_ix (pd 0) pd_int (fun _ _ => rfl)))) pda_nil)) pd_int) (pdg_sub (pd 0) pd_int)) (pss_done (psd_ret (pd_bin o_mod (pd_callTy c_int rfl T.n_int bt_int (pda_cons (pd_bin o_div (pd_ix (pd 0) pd_int (fun _ _ => rfl)) pd_int) pda_nil)) (pd 1))))))))
theorem t_one_of {k : Nat} (hk : 1 ≤ k) (T : Tx K mg base) (c_draw : Can P w K mg base 1 "_law_draw" s_draw ["_law_spring_here", "_law_many"] sp_draw) (f : Addr) (cd : Value) (A : Around) (outer : List Env) (s : Shared) (H : Hp) (E : XK) (hG : A.guards = some []) (hr : Room k (A.deeper (envOfC "_law_one_of" (defScope s_one_of) s.heap.objs.size f cd))) :
    PDSs (cxD P w K mg base N_one_of "_law_one_of" (defScope s_one_of) f cd A outer s H E) (defBody s_one_of) b_one_of :=
  (pss_done (psd_ret (pd_ix (pd 1) (pd_call c_draw hG (hr.mono (by omega)) rfl (pda_cons (pd 0) (pda_cons (pd_callB c_len rfl T.n_len bt_len (pda_cons (pd 1) pda_nil)) pda_nil))) (fun _ _ => rfl))))
theorem t_divisor {k : Nat} (hk : 0 ≤ k) (T : Tx K mg base)  (f : Addr) (cd : Value) (A : Around) (outer : List Env) (s : Shared) (H : Hp) (E : XK) (hG : A.guards = some []) (hr : Room k (A.deeper (envOfC "_law_divisor" (defScope s_divisor) s.heap.objs.size f cd))) :
    PDSs (cxD P w K mg base N_divisor "_law_divisor" (defScope s_divisor) f cd A outer s H E) (defBody s_divisor) b_divisor :=
  (pss_dcons (psd_par (i := 2) (j := 3) rfl sc_divisor.nd rfl rfl (by decide) rfl rfl (pda_cons (pd_callB c_abs rfl T.n_abs bt_abs (pda_cons (pd 0) pda_nil)) (pda_cons (pd_callB c_abs rfl T.n_abs bt_abs (pda_cons (pd 1) pda_nil)) pda_nil)) (by rfl)) (pss_dcons (psd_while PassesOwn.never (pdt_cmp (o_ne hr.units) (pd 3) pd_int (nomark _)) (pss_done (psd_par (i := 2) (j := 3) rfl sc_divisor.nd rfl rfl (by decide) rfl rfl (pda_cons (pd 3) (pda_cons (pd_bin o_mod (pd_callTy c_int rfl T.n_int bt_int (pda_cons (pd 2) pda_nil)) (pd 3)) pda_nil)) (by rfl)))) (pss_done (psd_ret (pd 2)))))
theorem t_part {k : Nat} (hk : 1 ≤ k) (T : Tx K mg base) (c_divisor : Can P w K mg base 1 "_law_divisor" s_divisor ["_law_one", "_law_two"] sp_divisor) (f : Addr) (cd : Value) (A : Around) (outer : List Env) (s : Shared) (H : Hp) (E : XK) (hG : A.guards = some []) (hr : Room k (A.deeper (envOfC "_law_part" (defScope s_part) s.heap.objs.size f cd))) :
    PDSs (cxD P w K mg base N_part "_law_part" (defScope s_part) f cd A outer s H E) (defBody s_part) b_part :=
  (pss_dcons (psd_set (i := 2) sc_part.nd rfl (by first | exact .inl rfl | exact .inr rfl) (pd_if (pdt_cmp o_gt (pd 1) pd_int (nomark _)) (pd_call c_divisor hG (hr.mono (by omega)) rfl (pda_cons (pd 0) (pda_cons (pd 1) pda_nil))) (pd_bin o_sub pd_int (pd_call c_divisor hG (hr.mono (by omega)) rfl (pda_cons (pd 0) (pda_cons (pd 1) pda_nil)))))) (pss_done (psd_ret (pd_tup (pda_cons (pd_bin o_div (pd 0) (pd 2)) (pda_cons (pd_bin o_div (pd 1) (pd 2)) pda_nil))))))
theorem t_frame {k : Nat} (hk : 2 ≤ k) (T : Tx K mg base) (c_one_of : Can P w K mg base 2 "_law_one_of" s_one_of ["_law_spring_here", "_law_some"] sp_one_of) (f : Addr) (cd : Value) (A : Around) (outer : List Env) (s : Shared) (H : Hp) (E : XK) (hG : A.guards = some []) (hr : Room k (A.deeper (envOfC "_law_frame" (defScope s_frame) s.heap.objs.size f cd))) :
    PDSs (cxD P w K mg base N_frame "_law_frame" (defScope s_frame) f cd A outer s H E) (defBody s_frame) b_frame :=
  (pss_dcons (psd_set (i := 1) sc_frame.nd rfl (by first | exact .inl rfl | exact .inr rfl) (pd_call c_one_of hG (hr.mono (by omega)) rfl (pda_cons (pd 0) (pda_cons (pd_tup (pda_cons pd_int (pda_cons pd_int (pda_cons pd_int pda_nil)))) pda_nil)))) (pss_dcons (psd_asg (pd_call c_one_of hG (hr.mono (by omega)) rfl (pda_cons (pd 0) (pda_cons (pd_tup (pda_cons (pd_tup (pda_cons pd_int (pda_cons pd_int (pda_cons pd_int (pda_cons pd_int pda_nil))))) (pda_cons (pd_tup (pda_cons pd_int (pda_cons pd_int (pda_cons pd_int (pda_cons pd_int pda_nil))))) (pda_cons (pd_tup (pda_cons (pd_neg pd_int) (pda_cons (pd_neg pd_int) (pda_cons pd_int (pda_cons pd_int pda_nil))))) (pda_cons (pd_tup (pda_cons (pd_neg pd_int) (pda_cons pd_int (pda_cons pd_int (pda_cons pd_int pda_nil))))) (pda_cons (pd_tup (pda_cons pd_int (pda_cons (pd_neg pd_int) (pda_cons pd_int (pda_cons pd_int pda_nil))))) (pda_cons (pd_tup (pda_cons pd_int (pda_cons pd_int (pda_cons pd_int (pda_cons pd_int pda_nil))))) (pda_cons (pd_tup (pda_cons (pd_neg pd_int) (pda_cons pd_int (pda_cons pd_int (pda_cons pd_int pda_nil))))) (pda_cons (pd_tup (pda_cons (pd_neg pd_int) (pda_cons (pd_neg pd_int) (pda_cons pd_int (pda_cons pd_int pda_nil))))) pda_nil))))))))) pda_nil))) (pdg_tup (n := 4) rfl (pdgs_cons (pdg_name (i := 2) sc_frame.nd rfl (by first | exact .inl rfl | exact .inr rfl)) (pdgs_cons (pdg_name (i := 3) sc_frame.nd rfl (by first | exact .inl rfl | exact .inr rfl)) (pdgs_cons (pdg_name (i := 4) sc_frame.nd rfl (by first | exact .inl rfl | exact .inr rfl)) (pdgs_cons (pdg_name (i := 5) sc_frame.nd rfl (by first | exact .inl rfl | exact .inr rfl)) pdgs_nil)))))) (pss_done (psd_ret (pd_tup (pda_cons (pd 2) (pda_cons (pd 3) (pda_cons (pd 4) (pda_cons (pd 5) (pda_cons (pd 1) pda_nil))))))))))
theorem t_grid {k : Nat} (hk : 2 ≤ k) (T : Tx K mg base) (c_part : Can P w K mg base 2 "_law_part" s_part ["_law_top", "_law_base"] sp_part) (f : Addr) (cd : Value) (A : Around) (outer : List Env) (s : Shared) (H : Hp) (E : XK) (hG : A.guards = some []) (hr : Room k (A.deeper (envOfC "_law_grid" (defScope s_grid) s.heap.objs.size f cd))) :
    PDSs (cxD P w K mg base N_grid "_law_grid" (defScope s_grid) f cd A outer s H E) (defBody s_grid) b_grid :=
  (pss_dcons (psd_asg (pd 0) (pdg_tup (n := 5) rfl (pdgs_cons (pdg_name (i := 4) sc_grid.nd rfl (by first | exact .inl rfl | exact .inr rfl)) (pdgs_cons (pdg_name (i := 5) sc_grid.nd rfl (by first | exact .inl rfl | exact .inr rfl)) (pdgs_cons (pdg_name (i := 6) sc_grid.nd rfl (by first | exact .inl rfl | exact .inr rfl)) (pdgs_cons (pdg_name (i := 7) sc_grid.nd rfl (by first | exact .inl rfl | exact .inr rfl)) (pdgs_cons (pdg_name (i := 8) sc_grid.nd rfl (by first | exact .inl rfl | exact .inr rfl)) pdgs_nil))))))) (pss_done (psd_ret (pd_tup (pda_cons (pd_call c_part hG (hr.mono (by omega)) rfl (pda_cons (pd_bin o_add (pd_bin o_mul (pd 4) (pd 3)) (pd_bin o_mul (pd 6) (pd 1))) (pda_cons (pd_bin o_mul (pd 7) (pd 3)) pda_nil))) (pda_cons (pd_call c_part hG (hr.mono (by omega)) rfl (pda_cons (pd_bin o_add (pd_bin o_mul (pd 5) (pd 3)) (pd_bin o_mul (pd 6) (pd 2))) (pda_cons (pd_bin o_mul (pd 7) (pd 3)) pda_nil))) pda_nil))))))
theorem t_dot {k : Nat} (hk : 3 ≤ k) (T : Tx K mg base) (c_one_of : Can P w K mg base 2 "_law_one_of" s_one_of ["_law_spring_here", "_law_some"] sp_one_of) (c_draw : Can P w K mg base 1 "_law_draw" s_draw ["_law_spring_here", "_law_many"] sp_draw) (c_grid : Can P w K mg base 3 "_law_grid" s_grid ["_law_frame_here", "_law_i", "_law_j", "_law_n"] sp_grid) (f : Addr) (cd : Value) (A : Around) (outer : List Env) (s : Shared) (H : Hp) (E : XK) (hG : A.guards = some []) (hr : Room k (A.deeper (envOfC "_law_dot" (defScope s_dot) s.heap.objs.size f cd))) :
    PDSs (cxD P w K mg base N_dot "_law_dot" (defScope s_dot) f cd A outer s H E) (defBody s_dot) b_dot :=
  (pss_dcons (psd_set (i := 2) sc_dot.nd rfl (by first | exact .inl rfl | exact .inr rfl) (pd_call c_one_of hG (hr.mono (by omega)) rfl (pda_cons (pd 0) (pda_cons (pd_tup (pda_cons pd_int (pda_cons pd_int (pda_cons pd_int (pda_cons pd_int (pda_cons pd_int pda_nil)))))) pda_nil)))) (pss_dcons (psd_par (i := 3) (j := 4) rfl sc_dot.nd rfl rfl (by decide) rfl rfl (pda_cons (pd_call c_draw hG (hr.mono (by omega)) rfl (pda_cons (pd 0) (pda_cons (pd_bin o_add (pd_bin o_mul (pd 2) (pd_ix (pd 1) pd_int (fun _ _ => rfl))) pd_int) pda_nil))) (pda_cons (pd_call c_draw hG (hr.mono (by omega)) rfl (pda_cons (pd 0) (pda_cons (pd_bin o_add (pd_bin o_mul (pd 2) (pd_ix (pd 1) pd_int (fun _ _ => rfl))) pd_int) pda_nil))) pda_nil)) (by rfl)) (pss_done (psd_ret (pd_call c_grid hG (hr.mono (by omega)) rfl (pda_cons (pd 1) (pda_cons (pd 3) (pda_cons (pd 4) (pda_cons (pd 2) pda_nil)))))))))
theorem t_row {k : Nat} (hk : 3 ≤ k) (T : Tx K mg base) (c_draw : Can P w K mg base 1 "_law_draw" s_draw ["_law_spring_here", "_law_many"] sp_draw) (c_one_of : Can P w K mg base 2 "_law_one_of" s_one_of ["_law_spring_here", "_law_some"] sp_one_of) (c_grid : Can P w K mg base 3 "_law_grid" s_grid ["_law_frame_here", "_law_i", "_law_j", "_law_n"] sp_grid) (f : Addr) (cd : Value) (A : Around) (outer : List Env) (s : Shared) (H : Hp) (E : XK) (hG : A.guards = some []) (hr : Room k (A.deeper (envOfC "_law_row" (defScope s_row) s.heap.objs.size f cd))) :
    PDSs (cxD P w K mg base N_row "_law_row" (defScope s_row) f cd A outer s H E) (defBody s_row) b_row :=
  (pss_dcons (psd_set (i := 4) sc_row.nd rfl (by first | exact .inl rfl | exact .inr rfl) (pd_ix (pd 1) pd_int (fun _ _ => rfl))) (pss_dcons (psd_set (i := 5) sc_row.nd rfl (by first | exact .inl rfl | exact .inr rfl) (pd_lst (pda_cons (pd_call c_draw hG (hr.mono (by omega)) rfl (pda_cons (pd 0) (pda_cons (pd_bin o_mul (pd 4) (pd 4)) pda_nil))) pda_nil))) (pss_dcons (psd_for PassesOwn.never rfl (pdi_rng2 rfl T.n_range (pda_cons pd_int (pda_cons (pd 2) pda_nil))) (pdg_name (i := 6) sc_row.nd rfl (by first | exact .inl rfl | exact .inr rfl)) (pss_dcons (psd_set (i := 7) sc_row.nd rfl (by first | exact .inl rfl | exact .inr rfl) (pd_if (pdt_w (pdw_and (pdt_val (pd 3)) (pdw_and1 (pdt_cmp (o_eq hr.units) (pd 6) (pd_bin o_sub (pd 2) pd_int) (nomark _))))) (pd_lstV (pda_cons (pd_ix (pd 5) (pd_neg pd_int) (fun _ _ => rfl)) (pda_cons (pd_ix (pd 5) pd_int (fun _ _ => rfl)) pda_nil))) (pd_lstV (pda_cons (pd_ix (pd 5) (pd_neg pd_int) (fun _ _ => rfl)) pda_nil)))) (pss_done (psd_expr (pd_append (pd 5) (pd_call c_one_of hG (hr.mono (by omega)) rfl (pda_cons (pd 0) (pda_cons (pd_lcM hm_val rfl sc_row.nd (pdi_rng1 rfl T.n_range (pda_cons (pd_bin o_mul (pd 4) (pd 4)) pda_nil)) (blkOk_by (N := N_row) (sc := defScope s_row) (by decide +kernel)) (fun _ _ _ _ _ => pg_name (i := 8) sc_row.nd rfl (Or.inl rfl)) (fun _ _ _ _ _ => (pdts_one (pdt_cmp (o_notin (u65 hr)) (pd 8) (pd 7) (by rfl)))) (fun _ _ _ _ _ => (pd 8))) pda_nil)))))))) (pss_done (psd_ret (pd_callTy c_tuple rfl T.n_tuple bt_tuple (pda_cons (pd_lcM hm_val rfl sc_row.nd (pdi_seq (pd 5)) (blkOk_by (N := N_row) (sc := defScope s_row) (by decide +kernel)) (fun _ _ _ _ _ => pg_name (i := 8) sc_row.nd rfl (Or.inl rfl)) (fun _ _ _ _ _ => pdts_nil) (fun _ _ _ _ _ => (pd_call c_grid hG (hr.mono (by omega)) rfl (pda_cons (pd 1) (pda_cons (pd_bin o_div (pd 8) (pd 4)) (pda_cons (pd_bin o_mod (pd_callTy c_int rfl T.n_int bt_int (pda_cons (pd 8) pda_nil)) (pd 4)) (pda_cons pd_int pda_nil))))))) pda_nil)))))))
theorem t_box {k : Nat} (hk : 3 ≤ k) (T : Tx K mg base) (c_draw : Can P w K mg base 1 "_law_draw" s_draw ["_law_spring_here", "_law_many"] sp_draw) (c_grid : Can P w K mg base 3 "_law_grid" s_grid ["_law_frame_here", "_law_i", "_law_j", "_law_n"] sp_grid) (f : Addr) (cd : Value) (A : Around) (outer : List Env) (s : Shared) (H : Hp) (E : XK) (hG : A.guards = some []) (hr : Room k (A.deeper (envOfC "_law_box" (defScope s_box) s.heap.objs.size f cd))) :
    PDSs (cxD P w K mg base N_box "_law_box" (defScope s_box) f cd A outer s H E) (defBody s_box) b_box :=
  (pss_dcons (psd_par (i := 2) (j := 3) rfl sc_box.nd rfl rfl (by decide) rfl rfl (pda_cons (pd_call c_draw hG (hr.mono (by omega)) rfl (pda_cons (pd 0) (pda_cons (pd_bin o_sub (pd_ix (pd 1) pd_int (fun _ _ => rfl)) pd_int) pda_nil))) (pda_cons (pd_call c_draw hG (hr.mono (by omega)) rfl (pda_cons (pd 0) (pda_cons (pd_bin o_sub (pd_ix (pd 1) pd_int (fun _ _ => rfl)) pd_int) pda_nil))) pda_nil)) (by rfl)) (pss_dcons (psd_par (i := 4) (j := 5) rfl sc_box.nd rfl rfl (by decide) rfl rfl (pda_cons (pd_bin o_add (pd_bin o_add (pd 2) pd_int) (pd_call c_draw hG (hr.mono (by omega)) rfl (pda_cons (pd 0) (pda_cons (pd_bin o_sub (pd_bin o_sub (pd_ix (pd 1) pd_int (fun _ _ => rfl)) pd_int) (pd 2)) pda_nil)))) (pda_cons (pd_bin o_add (pd_bin o_add (pd 3) pd_int) (pd_call c_draw hG (hr.mono (by omega)) rfl (pda_cons (pd 0) (pda_cons (pd_bin o_sub (pd_bin o_sub (pd_ix (pd 1) pd_int (fun _ _ => rfl)) pd_int) (pd 3)) pda_nil)))) pda_nil)) (by rfl)) (pss_dcons (psd_set (i := 6) sc_box.nd rfl (by first | exact .inl rfl | exact .inr rfl) (pd_lstV (pda_cons (pd_call c_grid hG (hr.mono (by omega)) rfl (pda_cons (pd 1) (pda_cons (pd 2) (pda_cons (pd 3) (pda_cons pd_int pda_nil))))) (pda_cons (pd_call c_grid hG (hr.mono (by omega)) rfl (pda_cons (pd 1) (pda_cons (pd 4) (pda_cons (pd 3) (pda_cons pd_int pda_nil))))) (pda_cons (pd_call c_grid hG (hr.mono (by omega)) rfl (pda_cons (pd 1) (pda_cons (pd 4) (pda_cons (pd 5) (pda_cons pd_int pda_nil))))) (pda_cons (pd_call c_grid hG (hr.mono (by omega)) rfl (pda_cons (pd 1) (pda_cons (pd 2) (pda_cons (pd 5) (pda_cons pd_int pda_nil))))) pda_nil)))))) (pss_done (psd_ret (pd_callTy c_tuple rfl T.n_tuple bt_tuple (pda_cons (pd_if (pdt_cmp o_gt (pd_call c_draw hG (hr.mono (by omega)) rfl (pda_cons (pd 0) (pda_cons pd_int pda_nil))) pd_int (nomark _)) (pd 6) (pd_rev (pd 6))) pda_nil)))))))
theorem t_pairs {k : Nat} (hk : 0 ≤ k) (T : Tx K mg base)  (f : Addr) (cd : Value) (A : Around) (outer : List Env) (s : Shared) (H : Hp) (E : XK) (hG : A.guards = some []) (hr : Room k (A.deeper (envOfC "_law_pairs" (defScope s_pairs) s.heap.objs.size f cd))) :
    PDSs (cxD P w K mg base N_pairs "_law_pairs" (defScope s_pairs) f cd A outer s H E) (defBody s_pairs) b_pairs :=
  (pss_dcons (psd_set (i := 2) sc_pairs.nd rfl (by first | exact .inl rfl | exact .inr rfl) (pd_lstZip rfl rfl T.n_list rfl T.n_zip (pda_cons (pd 0) (pda_cons (pd_sl (pd 0) (pdo_some pd_int) pdo_none) pda_nil)))) (pss_dcons (psd_if (pdt_val (pd 1)) (pss_done (psd_expr (pd_append (pd 2) (pd_tup (pda_cons (pd_ix (pd 0) (pd_neg pd_int) (fun _ _ => rfl)) (pda_cons (pd_ix (pd 0) pd_int (fun _ _ => rfl)) pda_nil)))))) pss_dnil) (pss_done (psd_ret (pd 2)))))
theorem t_leaf {k : Nat} (hk : 4 ≤ k) (T : Tx K mg base) (c_one_of : Can P w K mg base 2 "_law_one_of" s_one_of ["_law_spring_here", "_law_some"] sp_one_of) (c_draw : Can P w K mg base 1 "_law_draw" s_draw ["_law_spring_here", "_law_many"] sp_draw) (c_box : Can P w K mg base 4 "_law_box" s_box ["_law_spring_here", "_law_frame_here"] sp_box) (c_row : Can P w K mg base 4 "_law_row" s_row ["_law_spring_here", "_law_frame_here", "_law_many", "_law_is_closed"] sp_row) (c_dot : Can P w K mg base 4 "_law_dot" s_dot ["_law_spring_here", "_law_frame_here"] sp_dot) (f : Addr) (cd : Value) (A : Around) (outer : List Env) (s : Shared) (H : Hp) (E : XK) (hG : A.guards = some []) (hr : Room k (A.deeper (envOfC "_law_leaf" (defScope s_leaf) s.heap.objs.size f cd))) :
    PDSs (cxD P w K mg base N_leaf "_law_leaf" (defScope s_leaf) f cd A outer s H E) (defBody s_leaf) b_leaf :=
  (pss_dcons (psd_set (i := 3) sc_leaf.nd rfl (by first | exact .inl rfl | exact .inr rfl) (pd_call c_one_of hG (hr.mono (by omega)) rfl (pda_cons (pd 0) (pda_cons (pd_tup (pda_cons pd_str (pda_cons pd_str (pda_cons pd_str (pda_cons pd_str (pda_cons pd_str pda_nil)))))) pda_nil)))) (pss_dcons (psd_if (pdt_w (pdw_and (pdt_cmp (o_eq hr.units) (pd 3) pd_str (nomark _)) (pdw_and1 (pdt_cmp o_gt (pd_ix (pd 2) pd_int (fun _ _ => rfl)) pd_int (nomark _))))) (pss_dcons (psd_set (i := 4) sc_leaf.nd rfl (by first | exact .inl rfl | exact .inr rfl) (pd_bin o_add pd_int (pd_call c_draw hG (hr.mono (by omega)) rfl (pda_cons (pd 0) (pda_cons (pd_callB (c_min rfl) rfl T.n_min bt_min (pda_cons pd_int (pda_cons (pd_bin o_sub (pd_ix (pd 2) pd_int (fun _ _ => rfl)) pd_int) pda_nil))) pda_nil))))) (pss_dcons (psd_asg (pd_bin o_sub (pd_ix (pd 2) pd_int (fun _ _ => rfl)) (pd 4)) (pdg_sub (pd 2) pd_int)) (pss_dcons (psd_if (pdt_w (pdw_and (pdt_cmp (o_eq hr.units) (pd 4) pd_int (nomark _)) (pdw_and1 (pdt_cmp o_gt (pd_call c_draw hG (hr.mono (by omega)) rfl (pda_cons (pd 0) (pda_cons pd_int pda_nil))) pd_int (nomark _))))) (pss_done (psd_ret (pd_tup (pda_cons (pd 3) (pda_cons (pd_call c_box hG (hr.mono (by omega)) rfl (pda_cons (pd 0) (pda_cons (pd 1) pda_nil))) pda_nil))))) pss_dnil) (pss_done (psd_ret (pd_tup (pda_cons (pd 3) (pda_cons (pd_call c_row hG (hr.mono (by omega)) rfl (pda_cons (pd 0) (pda_cons (pd 1) (pda_cons (pd 4) (pda_cons pd_bl pda_nil))))) pda_nil)))))))) pss_dnil) (pss_dcons (psd_if (pdt_w (pdw_and (pdt_cmp (o_ne hr.units) (pd 3) pd_str (nomark _)) (pdw_and1 (pdt_cmp o_gt (pd_ix (pd 2) pd_int (fun _ _ => rfl)) pd_int (nomark _))))) (pss_dcons (psd_set (i := 4) sc_leaf.nd rfl (by first | exact .inl rfl | exact .inr rfl) (pd_bin o_add pd_int (pd_call c_draw hG (hr.mono (by omega)) rfl (pda_cons (pd 0) (pda_cons (pd_callB (c_min rfl) rfl T.n_min bt_min (pda_cons pd_int (pda_cons (pd_ix (pd 2) pd_int (fun _ _ => rfl)) pda_nil))) pda_nil))))) (pss_dcons (psd_asg (pd_bin o_add (pd_bin o_sub (pd_ix (pd 2) pd_int (fun _ _ => rfl)) (pd 4)) pd_int) (pdg_sub (pd 2) pd_int)) (pss_done (psd_ret (pd_tup (pda_cons pd_str (pda_cons (pd_call c_row hG (hr.mono (by omega)) rfl (pda_cons (pd 0) (pda_cons (pd 1) (pda_cons (pd 4) (pda_cons pd_bl pda_nil))))) pda_nil))))))) pss_dnil) (pss_done (psd_ret (pd_tup (pda_cons pd_str (pda_cons (pd_call c_dot hG (hr.mono (by omega)) rfl (pda_cons (pd 0) (pda_cons (pd 1) pda_nil))) pda_nil))))))))
theorem t_figure {k : Nat} (hk : 5 ≤ k) (T : Tx K mg base) (c_one_of : Can P w K mg base 2 "_law_one_of" s_one_of ["_law_spring_here", "_law_some"] sp_one_of) (c_leaf : Can P w K mg base 5 "_law_leaf" s_leaf ["_law_spring_here", "_law_frame_here", "_law_room"] sp_leaf) {sp_self : SpD} (c_self : Can P w K mg base k "_law_figure" s_figure ["_law_spring_here", "_law_frame_here", "_law_deep", "_law_room"] sp_self) (f : Addr) (cd : Value) (A : Around) (outer : List Env) (s : Shared) (H : Hp) (E : XK) (hG : A.guards = some []) (hr : Room k (A.deeper (envOfC "_law_figure" (defScope s_figure) s.heap.objs.size f cd))) :
    PDSs (cxD P w K mg base N_figure "_law_figure" (defScope s_figure) f cd A outer s H E) (defBody s_figure) (b_figure sp_self) :=
  (pss_dcons (psd_set (i := 4) sc_figure.nd rfl (by first | exact .inl rfl | exact .inr rfl) (pd_tup (pda_cons pd_str (pda_cons pd_str (pda_cons pd_str (pda_cons pd_str (pda_cons pd_str (pda_cons pd_str (pda_cons pd_str (pda_cons pd_str pda_nil)))))))))) (pss_dcons (psd_set (i := 5) sc_figure.nd rfl (by first | exact .inl rfl | exact .inr rfl) (pd_if (pdt_cmp o_gt (pd 2) pd_int (nomark _)) (pd_call c_one_of hG (hr.mono (by omega)) rfl (pda_cons (pd 0) (pda_cons (pd 4) pda_nil))) pd_str)) (pss_dcons (psd_if (pdt_cmp (o_eq hr.units) (pd 5) pd_str (nomark _)) (pss_done (psd_ret (pd_call c_leaf hG (hr.mono (by omega)) rfl (pda_cons (pd 0) (pda_cons (pd 1) (pda_cons (pd 3) pda_nil)))))) pss_dnil) (pss_dcons (psd_set (i := 6) sc_figure.nd rfl (by first | exact .inl rfl | exact .inr rfl) (pd_call c_self hG (hr.mono (by omega)) rfl (pda_cons (pd 0) (pda_cons (pd 1) (pda_cons (pd_bin o_sub (pd 2) pd_int) (pda_cons (pd 3) pda_nil)))))) (pss_dcons (psd_if (pdt_cmp (o_in (u65 hr)) (pd 5) (pd_tup (pda_cons pd_str (pda_cons pd_str (pda_cons pd_str pda_nil)))) (by rfl)) (pss_done (psd_ret (pd_tup (pda_cons (pd 5) (pda_cons (pd 6) pda_nil))))) pss_dnil) (pss_done (psd_ret (pd_tup (pda_cons (pd 5) (pda_cons (pd 6) (pda_cons (pd_call c_self hG (hr.mono (by omega)) rfl (pda_cons (pd 0) (pda_cons (pd 1) (pda_cons (pd_bin o_sub (pd 2) pd_int) (pda_cons (pd 3) pda_nil))))) pda_nil)))))))))))
theorem t_odd {k : Nat} (hk : 2 ≤ k) (T : Tx K mg base) (c_one_of : Can P w K mg base 2 "_law_one_of" s_one_of ["_law_spring_here", "_law_some"] sp_one_of) (f : Addr) (cd : Value) (A : Around) (outer : List Env) (s : Shared) (H : Hp) (E : XK) (hG : A.guards = some []) (hr : Room k (A.deeper (envOfC "_law_odd" (defScope s_odd) s.heap.objs.size f cd))) :
    PDSs (cxD P w K mg base N_odd "_law_odd" (defScope s_odd) f cd A outer s H E) (defBody s_odd) b_odd :=
  (pss_dcons (psd_asg (pd_tup (pda_cons (pd_tup (pda_cons (pd_tup (pda_cons pd_int (pda_cons pd_int pda_nil))) (pda_cons (pd_tup (pda_cons pd_int (pda_cons pd_int pda_nil))) pda_nil))) (pda_cons (pd_tup (pda_cons (pd_tup (pda_cons pd_int (pda_cons pd_int pda_nil))) (pda_cons (pd_tup (pda_cons pd_int (pda_cons pd_int pda_nil))) pda_nil))) (pda_cons (pd_tup (pda_cons (pd_tup (pda_cons (pd_neg pd_int) (pda_cons pd_int pda_nil))) (pda_cons (pd_tup (pda_cons pd_int (pda_cons pd_int pda_nil))) pda_nil))) pda_nil)))) (pdg_tup (n := 3) rfl (pdgs_cons (pdg_name (i := 1) sc_odd.nd rfl (by first | exact .inl rfl | exact .inr rfl)) (pdgs_cons (pdg_name (i := 2) sc_odd.nd rfl (by first | exact .inl rfl | exact .inr rfl)) (pdgs_cons (pdg_name (i := 3) sc_odd.nd rfl (by first | exact .inl rfl | exact .inr rfl)) pdgs_nil))))) (pss_dcons (psd_set (i := 4) sc_odd.nd rfl (by first | exact .inl rfl | exact .inr rfl) (pd_lstV (pda_cons pd_non (pda_cons pd_bl (pda_cons pd_bl (pda_cons pd_int (pda_cons pd_int (pda_cons (pd_neg pd_int) (pda_cons (pd_bin o_pow pd_int pd_int) (pda_cons pd_str (pda_cons pd_str (pda_cons pd_str (pda_cons pd_str (pda_cons pd_str (pda_cons pd_str (pda_cons pd_str (pda_cons (pd_tup pda_nil) (pda_cons (pd_tup (pda_cons pd_int pda_nil)) (pda_cons (pd_tup (pda_cons pd_int (pda_cons pd_int pda_nil))) (pda_cons (pd_tup (pda_cons pd_int (pda_cons pd_int pda_nil))) (pda_cons (pd_tup (pda_cons pd_int (pda_cons pd_int pda_nil))) (pda_cons (pd_tup (pda_cons pd_int (pda_cons pd_int pda_nil))) (pda_cons (pd_tup (pda_cons pd_int (pda_cons pd_int pda_nil))) (pda_cons (pd_tup (pda_cons pd_int (pda_cons pd_int pda_nil))) (pda_cons (pd_tup (pda_cons pd_int (pda_cons (pd_neg pd_int) pda_nil))) (pda_cons (pd_tup (pda_cons pd_bl (pda_cons pd_int pda_nil))) (pda_cons (pd_tup (pda_cons pd_int (pda_cons pd_bl pda_nil))) (pda_cons (pd_tup (pda_cons pd_str (pda_cons pd_int pda_nil))) (pda_cons (pd_tup (pda_cons pd_non (pda_cons pd_int pda_nil))) (pda_cons (pd 1) (pda_cons (pd 2) (pda_cons (pd 3) (pda_cons (pd_tup (pda_cons (pd 1) (pda_cons (pd 2) pda_nil))) (pda_cons (pd_tup (pda_cons (pd 3) (pda_cons (pd 1) pda_nil))) (pda_cons (pd_tup (pda_cons (pd 1) (pda_cons (pd 1) pda_nil))) (pda_cons (pd_tup (pda_cons (pd 1) (pda_cons (pd 2) (pda_cons (pd 3) pda_nil)))) (pda_cons (pd_tup (pda_cons (pd 2) (pda_cons (pd 3) (pda_cons (pd 2) pda_nil)))) (pda_cons (pd_tup (pda_cons (pd_tup (pda_cons pd_int (pda_cons pd_int pda_nil))) pda_nil)) (pda_cons (pd_tup (pda_cons (pd_tup (pda_cons pd_int (pda_cons pd_int pda_nil))) (pda_cons (pd_tup (pda_cons pd_int (pda_cons pd_int pda_nil))) pda_nil))) (pda_cons (pd_tup (pda_cons (pd_tup (pda_cons pd_int (pda_cons pd_int pda_nil))) (pda_cons (pd_tup (pda_cons pd_int (pda_cons pd_int pda_nil))) (pda_cons (pd_tup (pda_cons pd_int (pda_cons pd_int pda_nil))) pda_nil)))) (pda_cons (pd_tup (pda_cons (pd_lstV (pda_cons pd_int (pda_cons pd_int pda_nil))) (pda_cons (pd_tup (pda_cons pd_int (pda_cons pd_int pda_nil))) pda_nil))) (pda_cons (pd_lstV pda_nil) (pda_cons (pd_lstV (pda_cons pd_int (pda_cons pd_int pda_nil))) (pda_cons (pd_lstV (pda_cons (pd_tup (pda_cons pd_int (pda_cons pd_int pda_nil))) (pda_cons (pd_tup (pda_cons pd_int (pda_cons pd_int pda_nil))) pda_nil))) (pda_cons pd_dict0 (pda_cons pd_dict1 (pda_cons (pd_tup (pda_cons pd_str (pda_cons pd_int pda_nil))) (pda_cons (pd_tup (pda_cons pd_str (pda_cons pd_int pda_nil))) (pda_cons (pd_tup (pda_cons pd_str (pda_cons pd_int pda_nil))) (pda_cons (pd_tup (pda_cons pd_str (pda_cons pd_int pda_nil))) (pda_cons (pd_tup (pda_cons pd_str (pda_cons pd_bl pda_nil))) (pda_cons (pd_tup (pda_cons pd_str (pda_cons (pd_neg pd_int) pda_nil))) (pda_cons (pd_tup (pda_cons pd_str (pda_cons pd_int pda_nil))) (pda_cons (pd_lstV (pda_cons pd_str (pda_cons pd_int pda_nil))) (pda_cons (pd_tup (pda_cons pd_str (pda_cons (pd 1) pda_nil))) (pda_cons (pd_tup (pda_cons pd_str (pda_cons (pd_tup (pda_cons (pd 1) pda_nil)) pda_nil))) (pda_cons (pd_tup (pda_cons pd_str (pda_cons (pd 1) (pda_cons (pd 2) pda_nil)))) (pda_cons (pd_tup (pda_cons pd_str (pda_cons (pd_tup (pda_cons (pd 1) (pda_cons (pd 2) pda_nil))) pda_nil))) (pda_cons (pd_tup (pda_cons pd_str (pda_cons (pd_tup (pda_cons (pd 1) (pda_cons (pd 1) pda_nil))) pda_nil))) (pda_cons (pd_tup (pda_cons pd_str (pda_cons (pd_tup (pda_cons (pd 1) pda_nil)) pda_nil))) (pda_cons (pd_tup (pda_cons pd_str (pda_cons (pd_tup pda_nil) pda_nil))) (pda_cons (pd_tup (pda_cons pd_str (pda_cons (pd_tup (pda_cons (pd 1) (pda_cons (pd 2) (pda_cons (pd 3) pda_nil)))) pda_nil))) (pda_cons (pd_tup (pda_cons pd_str (pda_cons (pd_tup (pda_cons (pd 1) (pda_cons (pd 2) (pda_cons (pd 1) pda_nil)))) pda_nil))) (pda_cons (pd_tup (pda_cons pd_str (pda_cons (pd_tup (pda_cons (pd 1) (pda_cons (pd 2) pda_nil))) pda_nil))) (pda_cons (pd_tup (pda_cons pd_str (pda_cons (pd_lstV (pda_cons (pd 1) (pda_cons (pd 2) (pda_cons (pd 3) pda_nil)))) pda_nil))) (pda_cons (pd_tup (pda_cons pd_str (pda_cons (pd_tup (pda_cons pd_str (pda_cons (pd 1) pda_nil))) pda_nil))) (pda_cons (pd_tup (pda_cons pd_str pda_nil)) (pda_cons (pd_tup (pda_cons pd_str (pda_cons (pd_tup (pda_cons pd_str (pda_cons (pd 1) pda_nil))) (pda_cons (pd_tup (pda_cons pd_str (pda_cons (pd 2) pda_nil))) pda_nil)))) (pda_cons (pd_tup (pda_cons pd_str (pda_cons (pd_tup (pda_cons pd_str (pda_cons (pd 1) pda_nil))) pda_nil))) (pda_cons (pd_tup (pda_cons pd_str (pda_cons (pd_tup (pda_cons pd_str (pda_cons (pd 1) pda_nil))) pda_nil))) (pda_cons (pd_tup (pda_cons pd_str (pda_cons pd_str pda_nil))) (pda_cons (pd_tup (pda_cons pd_str (pda_cons (pd_tup (pda_cons pd_str (pda_cons (pd 2) pda_nil))) (pda_cons (pd_tup (pda_cons pd_str (pda_cons (pd 2) pda_nil))) pda_nil)))) (pda_cons (pd_tup (pda_cons (pd_tup (pda_cons pd_str (pda_cons (pd_tup (pda_cons pd_str (pda_cons (pd 1) pda_nil))) pda_nil))) pda_nil)) (pda_cons (pd_tup (pda_cons (pd_tup (pda_cons pd_str (pda_cons (pd_tup (pda_cons pd_str (pda_cons (pd 1) pda_nil))) pda_nil))) (pda_cons (pd_tup (pda_cons pd_str (pda_cons (pd_tup (pda_cons pd_str (pda_cons (pd 1) pda_nil))) pda_nil))) pda_nil))) (pda_cons (pd_tup (pda_cons (pd_tup (pda_cons pd_str (pda_cons (pd_tup (pda_cons pd_str (pda_cons (pd 1) pda_nil))) pda_nil))) pda_nil)) (pda_cons (pd_tup (pda_cons (pd_tup (pda_cons pd_str (pda_cons (pd 1) pda_nil))) pda_nil)) (pda_cons (pd_tup (pda_cons (pd_tup (pda_cons pd_str (pda_cons (pd_tup (pda_cons pd_str (pda_cons (pd 1) pda_nil))) pda_nil))) (pda_cons (pd_tup (pda_cons pd_str (pda_cons (pd_tup (pda_cons pd_str (pda_cons (pd 2) pda_nil))) pda_nil))) pda_nil))) (pda_cons (pd_tup (pda_cons (pd_tup (pda_cons (pd 1) (pda_cons (pd 2) pda_nil))) (pda_cons (pd_tup (pda_cons (pd 2) (pda_cons (pd 1) pda_nil))) pda_nil))) (pda_cons (pd_tup (pda_cons (pd_tup (pda_cons (pd 1) (pda_cons (pd 1) pda_nil))) pda_nil)) pda_nil))))))))))))))))))))))))))))))))))))))))))))))))))))))))))))))))))))))))))))))) (pss_done (psd_ret (pd_call c_one_of hG (hr.mono (by omega)) rfl (pda_cons (pd 0) (pda_cons (pd 4) pda_nil)))))))
theorem t_bent {k : Nat} (hk : 3 ≤ k) (T : Tx K mg base) (c_draw : Can P w K mg base 1 "_law_draw" s_draw ["_law_spring_here", "_law_many"] sp_draw) {sp_self : SpD} (c_self : Can P w K mg base k "_law_bent" s_bent ["_law_spring_here", "_law_thing"] sp_self) (c_odd : Can P w K mg base 3 "_law_odd" s_odd ["_law_spring_here"] sp_odd) (f : Addr) (cd : Value) (A : Around) (outer : List Env) (s : Shared) (H : Hp) (E : XK) (hG : A.guards = some []) (hr : Room k (A.deeper (envOfC "_law_bent" (defScope s_bent) s.heap.objs.size f cd))) :
    PDSs (cxD P w K mg base N_bent "_law_bent" (defScope s_bent) f cd A outer s H E) (defBody s_bent) (b_bent sp_self) :=
  (pss_dcons (psd_if (pdt_w (pdw_and (pdt_val (pd_is rfl T.n_isinstance rfl T.n_tuple bt_tuple (pd 1) bt_isinstance)) (pdw_and (pdt_cmp (o_ne hr.units) (pd 1) (pd_tup pda_nil) (nomark _)) (pdw_and1 (pdt_cmp o_gt (pd_call c_draw hG (hr.mono (by omega)) rfl (pda_cons (pd 0) (pda_cons pd_int pda_nil))) pd_int (nomark _)))))) (pss_dcons (psd_set (i := 2) sc_bent.nd rfl (by first | exact .inl rfl | exact .inr rfl) (pd_call c_draw hG (hr.mono (by omega)) rfl (pda_cons (pd 0) (pda_cons (pd_callB c_len rfl T.n_len bt_len (pda_cons (pd 1) pda_nil)) pda_nil)))) (pss_done (psd_ret (pd_bin o_add (pd_bin o_add (pd_sl (pd 1) pdo_none (pdo_some (pd 2))) (pd_tup (pda_cons (pd_call c_self hG (hr.mono (by omega)) rfl (pda_cons (pd 0) (pda_cons (pd_ix (pd 1) (pd 2) (fun _ _ => rfl)) pda_nil))) pda_nil))) (pd_sl (pd 1) (pdo_some (pd_bin o_add (pd 2) pd_int)) pdo_none))))) pss_dnil) (pss_dcons (psd_set (i := 3) sc_bent.nd rfl (by first | exact .inl rfl | exact .inr rfl) (pd_call c_draw hG (hr.mono (by omega)) rfl (pda_cons (pd 0) (pda_cons pd_int pda_nil)))) (pss_dcons (psd_if (pdt_w (pdw_and (pdt_val (pd_is rfl T.n_isinstance rfl T.n_tuple bt_tuple (pd 1) bt_isinstance)) (pdw_and1 (pdt_cmp o_lt (pd 3) pd_int (nomark _))))) (pss_done (psd_ret (pd_ix (pd_tup (pda_cons (pd_callTy c_listV rfl T.n_list bt_list (pda_cons (pd 1) pda_nil)) (pda_cons (pd_sl (pd 1) pdo_none (pdo_some (pd_neg pd_int))) (pda_cons (pd_bin o_add (pd 1) (pd_sl (pd 1) (pdo_some (pd_neg pd_int)) pdo_none)) (pda_cons (pd_rev (pd 1)) (pda_cons (pd_sl (pd 1) (pdo_some pd_int) pdo_none) (pda_cons (pd_bin o_add (pd_sl (pd 1) pdo_none (pdo_some pd_int)) (pd 1)) (pda_cons (pd_tup (pda_cons (pd 1) pda_nil)) pda_nil)))))))) (pd 3) (fun _ _ => rfl)))) pss_dnil) (pss_dcons (psd_if (pdt_w (pdw_and (pdt_val (pd_is rfl T.n_isinstance rfl T.n_int bt_int (pd 1) bt_isinstance)) (pdw_and1 (pdt_cmp o_lt (pd 3) pd_int (nomark _))))) (pss_done (psd_ret (pd_ix (pd_tup (pda_cons (pd_bin o_add (pd 1) pd_int) (pda_cons (pd_bin o_sub pd_int (pd 1)) (pda_cons (pd_bin o_mul pd_int (pd 1)) (pda_cons (pd_bin o_sub (pd 1) pd_int) (pda_cons (pd_cmp (o_eq hr.units) (pd 1) pd_int (nomark _)) (pda_cons (pd_callTy c_str rfl T.n_str bt_str (pda_cons (pd 1) pda_nil)) pda_nil))))))) (pd 3) (fun _ _ => rfl)))) pss_dnil) (pss_done (psd_ret (pd_call c_odd hG (hr.mono (by omega)) rfl (pda_cons (pd 0) pda_nil))))))))
theorem t_l_is_whole {k : Nat} (hk : 0 ≤ k) (T : Tx K mg base)  (f : Addr) (cd : Value) (A : Around) (outer : List Env) (s : Shared) (H : Hp) (E : XK) (hG : A.guards = some []) (hr : Room k (A.deeper (envOfC "_law_is_whole" (defScope s_l_is_whole) s.heap.objs.size f cd))) :
    PDSs (cxD P w K mg base N_l_is_whole "_law_is_whole" (defScope s_l_is_whole) f cd A outer s H E) (defBody s_l_is_whole) b_l_is_whole :=
  (pss_done (psd_ret (pd_and (pd_is rfl T.n_isinstance rfl T.n_int bt_int (pd 0) bt_isinstance) (pd_one (pd_not (pd_is rfl T.n_isinstance rfl T.n_bool bt_bool (pd 0) bt_isinstance))))))
theorem t_is_lot {k : Nat} (hk : 0 ≤ k) (T : Tx K mg base)  (f : Addr) (cd : Value) (A : Around) (outer : List Env) (s : Shared) (H : Hp) (E : XK) (hG : A.guards = some []) (hr : Room k (A.deeper (envOfC "_law_is_lot" (defScope s_is_lot) s.heap.objs.size f cd))) :
    PDSs (cxD P w K mg base N_is_lot "_law_is_lot" (defScope s_is_lot) f cd A outer s H E) (defBody s_is_lot) b_is_lot :=
  (pss_done (psd_ret (pd_and (pd_is rfl T.n_isinstance rfl T.n_tuple bt_tuple (pd 0) bt_isinstance) (pd_one (pd_chain o_le o_le (pd 1) (pd_callB c_len rfl T.n_len bt_len (pda_cons (pd 0) pda_nil)) (pd 2))))))
theorem t_l_is_fraction {k : Nat} (hk : 1 ≤ k) (T : Tx K mg base) (c_is_lot : Can P w K mg base 1 "_law_is_lot" s_is_lot ["_law_thing", "_law_low", "_law_high"] sp_is_lot) (c_l_is_whole : Can P w K mg base 1 "_law_is_whole" s_l_is_whole ["_law_thing"] sp_l_is_whole) (c_divisor : Can P w K mg base 1 "_law_divisor" s_divisor ["_law_one", "_law_two"] sp_divisor) (f : Addr) (cd : Value) (A : Around) (outer : List Env) (s : Shared) (H : Hp) (E : XK) (hG : A.guards = some []) (hr : Room k (A.deeper (envOfC "_law_is_fraction" (defScope s_l_is_fraction) s.heap.objs.size f cd))) :
    PDSs (cxD P w K mg base N_l_is_fraction "_law_is_fraction" (defScope s_l_is_fraction) f cd A outer s H E) (defBody s_l_is_fraction) b_l_is_fraction :=
  (pss_dcons (psd_if (pdt_w (pdw_or (pdt_not (pdt_val (pd_call c_is_lot hG (hr.mono (by omega)) rfl (pda_cons (pd 0) (pda_cons pd_int (pda_cons pd_int pda_nil)))))) (pdw_or1 (pdt_not (pdt_val (pd_callB (c_all rfl) rfl T.n_all bt_all (pda_cons (pd_lcM hm_val rfl sc_l_is_fraction.nd (pdi_seq (pd 0)) (blkOk_by (N := N_l_is_fraction) (sc := defScope s_l_is_fraction) (by decide +kernel)) (fun _ _ _ _ _ => pg_name (i := 1) sc_l_is_fraction.nd rfl (Or.inl rfl)) (fun _ _ _ _ _ => pdts_nil) (fun _ _ _ _ _ => (pd_call c_l_is_whole hG (hr.mono (by omega)) rfl (pda_cons (pd 1) pda_nil)))) pda_nil))))))) (pss_done (psd_ret pd_bl)) pss_dnil) (pss_done (psd_ret (pd_and (pd_cmp o_gt (pd_ix (pd 0) pd_int (fun _ _ => rfl)) pd_int (nomark _)) (pd_one (pd_cmp (o_eq hr.units) (pd_call c_divisor hG (hr.mono (by omega)) rfl (pda_cons (pd_ix (pd 0) pd_int (fun _ _ => rfl)) (pda_cons (pd_ix (pd 0) pd_int (fun _ _ => rfl)) pda_nil))) pd_int (nomark _)))))))
theorem t_is_told {k : Nat} (hk : 2 ≤ k) (T : Tx K mg base) (c_is_lot : Can P w K mg base 1 "_law_is_lot" s_is_lot ["_law_thing", "_law_low", "_law_high"] sp_is_lot) (c_l_is_fraction : Can P w K mg base 2 "_law_is_fraction" s_l_is_fraction ["_law_thing"] sp_l_is_fraction) (f : Addr) (cd : Value) (A : Around) (outer : List Env) (s : Shared) (H : Hp) (E : XK) (hG : A.guards = some []) (hr : Room k (A.deeper (envOfC "_law_is_told" (defScope s_is_told) s.heap.objs.size f cd))) :
    PDSs (cxD P w K mg base N_is_told "_law_is_told" (defScope s_is_told) f cd A outer s H E) (defBody s_is_told) b_is_told :=
  (pss_done (psd_ret (pd_and (pd_call c_is_lot hG (hr.mono (by omega)) rfl (pda_cons (pd 0) (pda_cons pd_int (pda_cons pd_int pda_nil)))) (pd_one (pd_callB (c_all rfl) rfl T.n_all bt_all (pda_cons (pd_lcM hm_val rfl sc_is_told.nd (pdi_seq (pd 0)) (blkOk_by (N := N_is_told) (sc := defScope s_is_told) (by decide +kernel)) (fun _ _ _ _ _ => pg_name (i := 1) sc_is_told.nd rfl (Or.inl rfl)) (fun _ _ _ _ _ => pdts_nil) (fun _ _ _ _ _ => (pd_call c_l_is_fraction hG (hr.mono (by omega)) rfl (pda_cons (pd 1) pda_nil)))) pda_nil))))))
theorem t_shape {k : Nat} (hk : 3 ≤ k) (T : Tx K mg base) (c_is_lot : Can P w K mg base 1 "_law_is_lot" s_is_lot ["_law_thing", "_law_low", "_law_high"] sp_is_lot) {sp_self : SpD} (c_self : Can P w K mg base k "_law_shape" s_shape ["_law_thing"] sp_self) (c_is_told : Can P w K mg base 3 "_law_is_told" s_is_told ["_law_thing"] sp_is_told) (c_pairs : Can P w K mg base 1 "_law_pairs" s_pairs ["_law_row_here", "_law_is_closed"] sp_pairs) (f : Addr) (cd : Value) (A : Around) (outer : List Env) (s : Shared) (H : Hp) (E : XK) (hG : A.guards = some []) (hr : Room k (A.deeper (envOfC "_law_shape" (defScope s_shape) s.heap.objs.size f cd))) :
    PDSs (cxD P w K mg base N_shape "_law_shape" (defScope s_shape) f cd A outer s H E) (defBody s_shape) (b_shape sp_self) :=
  (pss_dcons (psd_if (pdt_w (pdw_or (pdt_not (pdt_val (pd_call c_is_lot hG (hr.mono (by omega)) rfl (pda_cons (pd 0) (pda_cons pd_int (pda_cons pd_int pda_nil)))))) (pdw_or1 (pdt_not (pdt_val (pd_is rfl T.n_isinstance rfl T.n_str bt_str (pd_ix (pd 0) pd_int (fun _ _ => rfl)) bt_isinstance)))))) (pss_done (psd_ret (pd_tup (pda_cons pd_int (pda_cons pd_int pda_nil))))) pss_dnil) (pss_dcons (psd_par (i := 1) (j := 2) rfl sc_shape.nd rfl rfl (by decide) rfl rfl (pda_cons (pd_ix (pd 0) pd_int (fun _ _ => rfl)) (pda_cons (pd_sl (pd 0) (pdo_some pd_int) pdo_none) pda_nil)) (by rfl)) (pss_dcons (psd_if (pdt_cmp (o_in (u65 hr)) (pd 1) (pd_tup (pda_cons pd_str (pda_cons pd_str (pda_cons pd_str (pda_cons pd_str (pda_cons pd_str (pda_cons pd_str pda_nil))))))) (by rfl)) (pss_dcons (psd_setLc (i := 3) hm_val rfl sc_shape.nd rfl rfl rfl (pdi_seq (pd 2)) (blkOk_by (N := N_shape) (sc := defScope s_shape) (by decide +kernel)) (fun _ _ _ _ _ => pg_name (i := 7) sc_shape.nd rfl (Or.inl rfl)) (fun _ _ _ _ _ => pdts_nil) (fun _ _ _ _ _ => (pd_call c_self hG (hr.mono (by omega)) rfl (pda_cons (pd 7) pda_nil)))) (pss_dcons (psd_if (pdt_w (pdw_or (pdt_cmp (o_ne hr.units) (pd_callB c_len rfl T.n_len bt_len (pda_cons (pd 2) pda_nil)) (pd_if (pdt_cmp (o_in (u65 hr)) (pd 1) (pd_tup (pda_cons pd_str (pda_cons pd_str (pda_cons pd_str pda_nil)))) (by rfl)) pd_int pd_int) (nomark _)) (pdw_or1 (pdt_cmp (o_in (u65 hr)) (pd_tup (pda_cons pd_int (pda_cons pd_int pda_nil))) (pd 3) (by rfl))))) (pss_done (psd_ret (pd_tup (pda_cons pd_int (pda_cons pd_int pda_nil))))) pss_dnil) (pss_done (psd_ret (pd_tup (pda_cons (pd_bin o_add pd_int (pd_callB (c_maxL rfl) rfl T.n_max bt_max (pda_cons (pd_lcM hm_val rfl sc_shape.nd (pdi_seq (pd 3)) (blkOk_by (N := N_shape) (sc := defScope s_shape) (by decide +kernel)) (fun _ _ _ _ _ => pg_name (i := 7) sc_shape.nd rfl (Or.inl rfl)) (fun _ _ _ _ _ => pdts_nil) (fun _ _ _ _ _ => (pd_ix (pd 7) pd_int (fun _ _ => rfl)))) pda_nil))) (pda_cons (pd_callB (c_sumL rfl) rfl T.n_sum bt_sum (pda_cons (pd_lcM hm_val rfl sc_shape.nd (pdi_seq (pd 3)) (blkOk_by (N := N_shape) (sc := defScope s_shape) (by decide +kernel)) (fun _ _ _ _ _ => pg_name (i := 7) sc_shape.nd rfl (Or.inl rfl)) (fun _ _ _ _ _ => pdts_nil) (fun _ _ _ _ _ => (pd_ix (pd 7) pd_int (fun _ _ => rfl)))) pda_nil)) pda_nil))))))) pss_dnil) (pss_dcons (psd_if (pdt_w (pdw_or (pdt_cmp (o_ne hr.units) (pd_callB c_len rfl T.n_len bt_len (pda_cons (pd 2) pda_nil)) pd_int (nomark _)) (pdw_or1 (pdt_cmp (o_notin (u65 hr)) (pd 1) (pd_tup (pda_cons pd_str (pda_cons pd_str (pda_cons pd_str pda_nil)))) (by rfl))))) (pss_done (psd_ret (pd_tup (pda_cons pd_int (pda_cons pd_int pda_nil))))) pss_dnil) (pss_dcons (psd_if (pdt_cmp (o_eq hr.units) (pd 1) pd_str (nomark _)) (pss_done (psd_ret (pd_if (pdt_val (pd_call c_is_told hG (hr.mono (by omega)) rfl (pda_cons (pd_ix (pd 2) pd_int (fun _ _ => rfl)) pda_nil))) (pd_tup (pda_cons pd_int (pda_cons pd_int pda_nil))) (pd_tup (pda_cons pd_int (pda_cons pd_int pda_nil)))))) pss_dnil) (pss_dcons (psd_par (i := 4) (j := 5) rfl sc_shape.nd rfl rfl (by decide) rfl rfl (pda_cons (pd_ix (pd 2) pd_int (fun _ _ => rfl)) (pda_cons (pd_if (pdt_cmp (o_eq hr.units) (pd 1) pd_str (nomark _)) pd_int pd_int) pda_nil)) (by rfl)) (pss_dcons (psd_if (pdt_w (pdw_or (pdt_not (pdt_val (pd_call c_is_lot hG (hr.mono (by omega)) rfl (pda_cons (pd 4) (pda_cons (pd 5) (pda_cons pd_int pda_nil)))))) (pdw_or1 (pdt_not (pdt_val (pd_callB (c_all rfl) rfl T.n_all bt_all (pda_cons (pd_lcM hm_val rfl sc_shape.nd (pdi_seq (pd 4)) (blkOk_by (N := N_shape) (sc := defScope s_shape) (by decide +kernel)) (fun _ _ _ _ _ => pg_name (i := 7) sc_shape.nd rfl (Or.inl rfl)) (fun _ _ _ _ _ => pdts_nil) (fun _ _ _ _ _ => (pd_call c_is_told hG (hr.mono (by omega)) rfl (pda_cons (pd 7) pda_nil)))) pda_nil))))))) (pss_done (psd_ret (pd_tup (pda_cons pd_int (pda_cons pd_int pda_nil))))) pss_dnil) (pss_dcons (psd_set (i := 6) sc_shape.nd rfl (by first | exact .inl rfl | exact .inr rfl) (pd_call c_pairs hG (hr.mono (by omega)) rfl (pda_cons (pd 4) (pda_cons (pd_cmp (o_eq hr.units) (pd 1) pd_str (nomark _)) pda_nil)))) (pss_done (psd_ret (pd_if (pdt_val (pd_callB (c_all rfl) rfl T.n_all bt_all (pda_cons (pd_lcM hm_val rfl sc_shape.nd (pdi_seq (pd 6)) (blkOk_by (N := N_shape) (sc := defScope s_shape) (by decide +kernel)) (fun _ _ _ _ _ => pg_name (i := 7) sc_shape.nd rfl (Or.inl rfl)) (fun _ _ _ _ _ => pdts_nil) (fun _ _ _ _ _ => (pd_cmp (o_ne hr.units) (pd_ix (pd 7) pd_int (fun _ _ => rfl)) (pd_ix (pd 7) pd_int (fun _ _ => rfl)) (nomark _)))) pda_nil))) (pd_tup (pda_cons pd_int (pda_cons (pd_callB c_len rfl T.n_len bt_len (pda_cons (pd 6) pda_nil)) pda_nil))) (pd_tup (pda_cons pd_int (pda_cons pd_int pda_nil))))))))))))))
theorem t_wrapped {k : Nat} (hk : 5 ≤ k) (T : Tx K mg base) (c_leaf : Can P w K mg base 5 "_law_leaf" s_leaf ["_law_spring_here", "_law_frame_here", "_law_room"] sp_leaf) (c_draw : Can P w K mg base 1 "_law_draw" s_draw ["_law_spring_here", "_law_many"] sp_draw) (c_one_of : Can P w K mg base 2 "_law_one_of" s_one_of ["_law_spring_here", "_law_some"] sp_one_of) (f : Addr) (cd : Value) (A : Around) (outer : List Env) (s : Shared) (H : Hp) (E : XK) (hG : A.guards = some []) (hr : Room k (A.deeper (envOfC "_law_wrapped" (defScope s_wrapped) s.heap.objs.size f cd))) :
    PDSs (cxD P w K mg base N_wrapped "_law_wrapped" (defScope s_wrapped) f cd A outer s H E) (defBody s_wrapped) b_wrapped :=
  (pss_dcons (psd_set (i := 2) sc_wrapped.nd rfl (by first | exact .inl rfl | exact .inr rfl) (pd_call c_leaf hG (hr.mono (by omega)) rfl (pda_cons (pd 0) (pda_cons (pd 1) (pda_cons (pd_lst (pda_cons pd_int pda_nil)) pda_nil))))) (pss_dcons (psd_for PassesOwn.never rfl (pdi_rng1 rfl T.n_range (pda_cons (pd_bin o_add pd_int (pd_call c_draw hG (hr.mono (by omega)) rfl (pda_cons (pd 0) (pda_cons pd_int pda_nil)))) pda_nil)) (pdg_name (i := 3) sc_wrapped.nd rfl (by first | exact .inl rfl | exact .inr rfl)) (pss_dcons (psd_set (i := 4) sc_wrapped.nd rfl (by first | exact .inl rfl | exact .inr rfl) (pd_call c_one_of hG (hr.mono (by omega)) rfl (pda_cons (pd 0) (pda_cons (pd_tup (pda_cons pd_str (pda_cons pd_str (pda_cons pd_str (pda_cons pd_str (pda_cons pd_str (pda_cons pd_str pda_nil))))))) pda_nil)))) (pss_done (psd_if (pdt_cmp (o_in (u65 hr)) (pd 4) (pd_tup (pda_cons pd_str (pda_cons pd_str (pda_cons pd_str pda_nil)))) (by rfl)) (pss_done (psd_set (i := 2) sc_wrapped.nd rfl (by first | exact .inl rfl | exact .inr rfl) (pd_tup (pda_cons (pd 4) (pda_cons (pd 2) pda_nil))))) (pss_dcons (psd_set (i := 5) sc_wrapped.nd rfl (by first | exact .inl rfl | exact .inr rfl) (pd_call c_leaf hG (hr.mono (by omega)) rfl (pda_cons (pd 0) (pda_cons (pd 1) (pda_cons (pd_lst (pda_cons pd_int pda_nil)) pda_nil))))) (pss_done (psd_set (i := 2) sc_wrapped.nd rfl (by first | exact .inl rfl | exact .inr rfl) (pd_if (pdt_cmp (o_eq hr.units) (pd_call c_draw hG (hr.mono (by omega)) rfl (pda_cons (pd 0) (pda_cons pd_int pda_nil))) pd_int (nomark _)) (pd_tup (pda_cons (pd 4) (pda_cons (pd 2) (pda_cons (pd 5) pda_nil)))) (pd_tup (pda_cons (pd 4) (pda_cons (pd 5) (pda_cons (pd 2) pda_nil)))))))))))) (pss_done (psd_ret (pd 2)))))
theorem t_wide {k : Nat} (hk : 4 ≤ k) (T : Tx K mg base) (c_row : Can P w K mg base 4 "_law_row" s_row ["_law_spring_here", "_law_frame_here", "_law_many", "_law_is_closed"] sp_row) (c_draw : Can P w K mg base 1 "_law_draw" s_draw ["_law_spring_here", "_law_many"] sp_draw) (c_one_of : Can P w K mg base 2 "_law_one_of" s_one_of ["_law_spring_here", "_law_some"] sp_one_of) (f : Addr) (cd : Value) (A : Around) (outer : List Env) (s : Shared) (H : Hp) (E : XK) (hG : A.guards = some []) (hr : Room k (A.deeper (envOfC "_law_wide" (defScope s_wide) s.heap.objs.size f cd))) :
    PDSs (cxD P w K mg base N_wide "_law_wide" (defScope s_wide) f cd A outer s H E) (defBody s_wide) b_wide :=
  (pss_dcons (psd_set (i := 2) sc_wide.nd rfl (by first | exact .inl rfl | exact .inr rfl) (pd_tup (pda_cons pd_str (pda_cons (pd_call c_row hG (hr.mono (by omega)) rfl (pda_cons (pd 0) (pda_cons (pd 1) (pda_cons pd_int (pda_cons pd_bl pda_nil))))) pda_nil)))) (pss_dcons (psd_set (i := 3) sc_wide.nd rfl (by first | exact .inl rfl | exact .inr rfl) (pd_tup (pda_cons pd_str (pda_cons (pd_call c_row hG (hr.mono (by omega)) rfl (pda_cons (pd 0) (pda_cons (pd 1) (pda_cons (pd_bin o_add pd_int (pd_call c_draw hG (hr.mono (by omega)) rfl (pda_cons (pd 0) (pda_cons pd_int pda_nil)))) (pda_cons pd_bl pda_nil))))) pda_nil)))) (pss_dcons (psd_set (i := 4) sc_wide.nd rfl (by first | exact .inl rfl | exact .inr rfl) (pd_tup (pda_cons pd_str (pda_cons (pd_call c_row hG (hr.mono (by omega)) rfl (pda_cons (pd 0) (pda_cons (pd 1) (pda_cons (pd_bin o_add pd_int (pd_call c_draw hG (hr.mono (by omega)) rfl (pda_cons (pd 0) (pda_cons pd_int pda_nil)))) (pda_cons pd_bl pda_nil))))) pda_nil)))) (pss_dcons (psd_set (i := 5) sc_wide.nd rfl (by first | exact .inl rfl | exact .inr rfl) (pd_call c_one_of hG (hr.mono (by omega)) rfl (pda_cons (pd 0) (pda_cons (pd_tup (pda_cons pd_str (pda_cons pd_str (pda_cons pd_str pda_nil)))) pda_nil)))) (pss_done (psd_ret (pd_call c_one_of hG (hr.mono (by omega)) rfl (pda_cons (pd 0) (pda_cons (pd_tup (pda_cons (pd_tup (pda_cons (pd 5) (pda_cons (pd 2) (pda_cons (pd_tup (pda_cons (pd 5) (pda_cons (pd 3) (pda_cons (pd 4) pda_nil)))) pda_nil)))) (pda_cons (pd_tup (pda_cons (pd 5) (pda_cons (pd_tup (pda_cons pd_str (pda_cons (pd_tup (pda_cons (pd 5) (pda_cons (pd 4) (pda_cons (pd 2) pda_nil)))) pda_nil))) (pda_cons (pd 3) pda_nil)))) pda_nil))) pda_nil)))))))))
theorem t_line {k : Nat} (hk : 4 ≤ k) (T : Tx K mg base) (c_one_of : Can P w K mg base 2 "_law_one_of" s_one_of ["_law_spring_here", "_law_some"] sp_one_of) (c_row : Can P w K mg base 4 "_law_row" s_row ["_law_spring_here", "_law_frame_here", "_law_many", "_law_is_closed"] sp_row) (c_draw : Can P w K mg base 1 "_law_draw" s_draw ["_law_spring_here", "_law_many"] sp_draw) (f : Addr) (cd : Value) (A : Around) (outer : List Env) (s : Shared) (H : Hp) (E : XK) (hG : A.guards = some []) (hr : Room k (A.deeper (envOfC "_law_line" (defScope s_line) s.heap.objs.size f cd))) :
    PDSs (cxD P w K mg base N_line "_law_line" (defScope s_line) f cd A outer s H E) (defBody s_line) b_line :=
  (pss_dcons (psd_set (i := 2) sc_line.nd rfl (by first | exact .inl rfl | exact .inr rfl) (pd_call c_one_of hG (hr.mono (by omega)) rfl (pda_cons (pd 0) (pda_cons (pd_tup (pda_cons pd_int (pda_cons pd_int (pda_cons pd_int (pda_cons pd_int (pda_cons pd_int (pda_cons pd_int (pda_cons pd_int pda_nil)))))))) pda_nil)))) (pss_done (psd_ret (pd_tup (pda_cons (pd_call c_one_of hG (hr.mono (by omega)) rfl (pda_cons (pd 0) (pda_cons (pd_tup (pda_cons pd_str (pda_cons pd_str pda_nil))) pda_nil))) (pda_cons (pd_call c_row hG (hr.mono (by omega)) rfl (pda_cons (pd 0) (pda_cons (pd 1) (pda_cons (pd 2) (pda_cons (pd_cmp (o_eq hr.units) (pd_call c_draw hG (hr.mono (by omega)) rfl (pda_cons (pd 0) (pda_cons pd_int pda_nil))) pd_int (nomark _)) pda_nil))))) pda_nil))))))
theorem t_is_due {k : Nat} (hk : 40 ≤ k) (T : Tx K mg base) (c_shape : Can P w K mg base 40 "_law_shape" s_shape ["_law_thing"] sp_shape) (f : Addr) (cd : Value) (A : Around) (outer : List Env) (s : Shared) (H : Hp) (E : XK) (hG : A.guards = some []) (hr : Room k (A.deeper (envOfC "_law_is_due" (defScope s_is_due) s.heap.objs.size f cd))) :
    PDSs (cxD P w K mg base N_is_due "_law_is_due" (defScope s_is_due) f cd A outer s H E) (defBody s_is_due) b_is_due :=
  (pss_dcons (psd_asg (pd_call c_shape hG (hr.mono (by omega)) rfl (pda_cons (pd 0) pda_nil)) (pdg_tup (n := 2) rfl (pdgs_cons (pdg_name (i := 1) sc_is_due.nd rfl (by first | exact .inl rfl | exact .inr rfl)) (pdgs_cons (pdg_name (i := 2) sc_is_due.nd rfl (by first | exact .inl rfl | exact .inr rfl)) pdgs_nil)))) (pss_done (psd_ret (pd_and (pd_chain o_lt o_lt pd_int (pd 1) pd_int) (pd_one (pd_cmp o_lt (pd 2) pd_int (nomark _)))))))
theorem t_right {k : Nat} (hk : 41 ≤ k) (T : Tx K mg base) (c_frame : Can P w K mg base 3 "_law_frame" s_frame ["_law_spring_here"] sp_frame) (c_line : Can P w K mg base 5 "_law_line" s_line ["_law_spring_here", "_law_frame_here"] sp_line) (c_wide : Can P w K mg base 5 "_law_wide" s_wide ["_law_spring_here", "_law_frame_here"] sp_wide) (c_wrapped : Can P w K mg base 6 "_law_wrapped" s_wrapped ["_law_spring_here", "_law_frame_here"] sp_wrapped) (c_figure : Can P w K mg base 14 "_law_figure" s_figure ["_law_spring_here", "_law_frame_here", "_law_deep", "_law_room"] sp_figure) (c_bent : Can P w K mg base 30 "_law_bent" s_bent ["_law_spring_here", "_law_thing"] sp_bent) (c_odd : Can P w K mg base 3 "_law_odd" s_odd ["_law_spring_here"] sp_odd) (c_one_of : Can P w K mg base 2 "_law_one_of" s_one_of ["_law_spring_here", "_law_some"] sp_one_of) (c_is_due : Can P w K mg base 41 "_law_is_due" s_is_due ["_law_thing"] sp_is_due) (c_is_figure : Can P w K mg base 21 "is_figure" s_is_figure ["value"] sp_is_figure) (f : Addr) (cd : Value) (A : Around) (outer : List Env) (s : Shared) (H : Hp) (E : XK) (hG : A.guards = some []) (hr : Room k (A.deeper (envOfC "_law_right" (defScope s_right) s.heap.objs.size f cd))) :
    PDSs (cxD P w K mg base N_right "_law_right" (defScope s_right) f cd A outer s H E) (defBody s_right) b_right :=
  (pss_dcons (psd_set (i := 1) sc_right.nd rfl (by first | exact .inl rfl | exact .inr rfl) (pd_call c_frame hG (hr.mono (by omega)) rfl (pda_cons (pd 0) pda_nil))) (pss_dcons (psd_set (i := 2) sc_right.nd rfl (by first | exact .inl rfl | exact .inr rfl) (pd_lst (pda_cons (pd_call c_figure hG (hr.mono (by omega)) rfl (pda_cons (pd 0) (pda_cons (pd 1) (pda_cons pd_int (pda_cons (pd_lst (pda_cons pd_int pda_nil)) pda_nil))))) (pda_cons (pd_call c_wrapped hG (hr.mono (by omega)) rfl (pda_cons (pd 0) (pda_cons (pd 1) pda_nil))) (pda_cons (pd_call c_wide hG (hr.mono (by omega)) rfl (pda_cons (pd 0) (pda_cons (pd 1) pda_nil))) (pda_cons (pd_call c_line hG (hr.mono (by omega)) rfl (pda_cons (pd 0) (pda_cons (pd 1) pda_nil))) pda_nil)))))) (pss_dcons (psd_set (i := 2) sc_right.nd rfl (by first | exact .inl rfl | exact .inr rfl) (pd_bin o_add (pd_bin o_add (pd 2) (pd_lcM hm_val rfl sc_right.nd (pdi_seq (pd 2)) (blkOk_by (N := N_right) (sc := defScope s_right) (by decide +kernel)) (fun _ _ _ _ _ => pg_name (i := 4) sc_right.nd rfl (Or.inl rfl)) (fun _ _ _ _ _ => pdts_nil) (fun _ _ _ _ _ => (pd_call c_bent hG (hr.mono (by omega)) rfl (pda_cons (pd 0) (pda_cons (pd 4) pda_nil)))))) (pd_lstV (pda_cons (pd_call c_bent hG (hr.mono (by omega)) rfl (pda_cons (pd 0) (pda_cons (pd_ix (pd 2) pd_int (fun _ _ => rfl)) pda_nil))) (pda_cons (pd_call c_odd hG (hr.mono (by omega)) rfl (pda_cons (pd 0) pda_nil)) (pda_cons (pd_call c_odd hG (hr.mono (by omega)) rfl (pda_cons (pd 0) pda_nil)) pda_nil)))))) (pss_dcons (psd_expr (pd_append (pd 2) (pd_tup (pda_cons (pd_call c_one_of hG (hr.mono (by omega)) rfl (pda_cons (pd 0) (pda_cons (pd_tup (pda_cons pd_str (pda_cons pd_str (pda_cons pd_str (pda_cons pd_str (pda_cons pd_str (pda_cons pd_str pda_nil))))))) pda_nil))) (pda_cons (pd_call c_odd hG (hr.mono (by omega)) rfl (pda_cons (pd 0) pda_nil)) pda_nil))))) (pss_dcons (psd_setLc (i := 3) hm_val rfl sc_right.nd rfl rfl rfl (pdi_seq (pd 2)) (blkOk_by (N := N_right) (sc := defScope s_right) (by decide +kernel)) (fun _ _ _ _ _ => pg_name (i := 4) sc_right.nd rfl (Or.inl rfl)) (fun _ _ _ _ _ => pdts_nil) (fun _ _ _ _ _ => (pd_call c_is_due hG (hr.mono (by omega)) rfl (pda_cons (pd 4) pda_nil)))) (pss_done (psd_ret (pd_and (pd_cmp (o_eq hr.units) (pd_callB (c_repr hG (u65 hr)) rfl T.n_repr bt_repr (pda_cons (pd_lcM hm_val rfl sc_right.nd (pdi_seq (pd 2)) (blkOk_by (N := N_right) (sc := defScope s_right) (by decide +kernel)) (fun _ _ _ _ _ => pg_name (i := 4) sc_right.nd rfl (Or.inl rfl)) (fun _ _ _ _ _ => pdts_nil) (fun _ _ _ _ _ => (pd_call c_is_figure hG (hr.mono (by omega)) rfl (pda_cons (pd 4) pda_nil)))) pda_nil)) (pd_callB (c_repr hG (u65 hr)) rfl T.n_repr bt_repr (pda_cons (pd 3) pda_nil)) (nomark _)) (pd_one (pd_cmp (o_eq hr.units) (pd_callB (c_repr hG (u65 hr)) rfl T.n_repr bt_repr (pda_cons (pd_callK (ks := ["value"]) c_is_figure hG (hr.mono (by omega)) (by rfl) [0] (fun _ _ _ _ _ _ ws hl => match ws, hl with | [_], _ => rfl) (pdk_cons (pd_ix (pd 2) pd_int (fun _ _ => rfl)) pdk_nil) (hlen := fun e s Q h => by simpa [dCons, dNil] using h)) pda_nil)) (pd_callB (c_repr hG (u65 hr)) rfl T.n_repr bt_repr (pda_cons (pd_ix (pd 3) pd_int (fun _ _ => rfl)) pda_nil)) (nomark _)))))))))))
theorem t_law {k : Nat} (hk : 42 ≤ k) (T : Tx K mg base) (c_right : Can P w K mg base 42 "_law_right" s_right ["_law_spring_here"] sp_right) (c_spring : Can P w K mg base 1 "_law_spring" s_spring ["_law_script", "_law_turn"] sp_spring) (f : Addr) (cd : Value) (A : Around) (outer : List Env) (s : Shared) (H : Hp) (E : XK) (hG : A.guards = some []) (hr : Room k (A.deeper (envOfC "law" (defScope s_law) s.heap.objs.size f cd))) :
    PDSs (cxD P w K mg base N_law "law" (defScope s_law) f cd A outer s H E) (defBody s_law) b_law :=
  (pss_done (psd_ret (pd_callB (c_all rfl) rfl T.n_all bt_all (pda_cons (pd_lcM hm_val rfl sc_law.nd (pdi_rng1 rfl T.n_range (pda_cons (pd_callB (c_max rfl) rfl T.n_max bt_max (pda_cons pd_int (pda_cons (pd_callB (c_min rfl) rfl T.n_min bt_min (pda_cons (pd_callB c_len rfl T.n_len bt_len (pda_cons (pd 0) pda_nil)) (pda_cons pd_int pda_nil))) pda_nil))) pda_nil)) (blkOk_by (N := N_law) (sc := defScope s_law) (by decide +kernel)) (fun _ _ _ _ _ => pg_name (i := 1) sc_law.nd rfl (Or.inl rfl)) (fun _ _ _ _ _ => pdts_nil) (fun _ _ _ _ _ => (pd_call c_right hG (hr.mono (by omega)) rfl (pda_cons (pd_call c_spring hG (hr.mono (by omega)) rfl (pda_cons (pd 0) (pda_cons (pd 1) pda_nil))) pda_nil)))) pda_nil))))
end
end K12
namespace K12
open PySem PySem.Spec PyProof.Rows L2 DL LB
theorem r_spring : ∀ ds st Q, sp_spring ds st Q → b_spring { nx := fun _ s' => Q (.d .none) s', rt := Q } (startD N_spring ds) st := LB.r_spring 722251 (by decide) (by decide)
section
variable [Tabs]
variable {P : Program} {w : World} {K : PySem.W.Frag} {mg : Str → Option Value} {base : Heap}
theorem can_none {x : Str} {st : Stmt} {ps : List Str} {k : Nat} (F : Has K mg x st)
    (bind : ∀ (kV doc pm : Value) (an : Option Addr) (cdv ct : Value) (us : List Value), us.length = ps.length → bindArgs (PySem.W.fnOf x x (defArgs st) (defBody st) (defScope st) .none kV doc pm an cdv ct) ⟨us, []⟩ = pure (ps.zip us)) : Can P w K mg base k x st ps (fun _ _ _ => False) := by
  obtain ⟨f, fd, hm, F⟩ := F.ex
  exact ⟨f, fd, ⟨fun vs H Q E ⟨_, _, _, _, _, _, h, _⟩ => h.elim, fun A outer s H args us vs Q E hg hr e0 hb hv ⟨_, _, _, _, _, _, h, _⟩ => h.elim⟩, hm, F, F.binds bind⟩
theorem canD_none {x : Str} {st : Stmt} {ps : List Str} {dvs : List V} {k : Nat} (F : HasD K mg x st dvs) (hd : dvs ≠ []) (n : Nat) (hn : n + dvs.length = ps.length)
    (b0 : ∀ (T : Addr) (kV doc pm : Value) (an : Option Addr) (cdv ct : Value) (us its : List Value), us.length = ps.length → its.length = dvs.length →
      ∃ k, bindArgs (PySem.W.fnOf x x (defArgs st) (defBody st) (defScope st) (.ref T) kV doc pm an cdv ct) ⟨us, []⟩ = seqItems? (.ref T) >>= k ∧ k (some its.toArray) = pure (ps.zip us))
    (b1 : ∀ (T : Addr) (kV doc pm : Value) (an : Option Addr) (cdv ct : Value) (us its : List Value), us.length = n → its.length = dvs.length →
      ∃ k, bindArgs (PySem.W.fnOf x x (defArgs st) (defBody st) (defScope st) (.ref T) kV doc pm an cdv ct) ⟨us, []⟩ = seqItems? (.ref T) >>= k ∧ k (some its.toArray) = pure (ps.zip (us ++ its))) : CanD P w K mg base k x dvs ps (fun _ _ _ => False) := by
  obtain ⟨f, fd, hm, F⟩ := F.ex
  refine ⟨f, fd, ⟨fun vs H Q E ⟨_, _, _, _, _, _, h, _⟩ => h.elim, fun A outer s H args us vs Q E hg hr e0 hb hv ⟨_, _, _, _, _, _, h, _⟩ => h.elim⟩, hm, F.kp, ?_, ?_⟩
  · obtain ⟨ds, v, B⟩ := F.binds1 (ps := ps) ps.length dvs.length hd (by omega) fun T kV doc pm an cdv ct us its h1 h2 => by
      obtain ⟨k, e1, e2⟩ := b0 T kV doc pm an cdv ct us its h1 h2
      refine ⟨k, e1, ?_⟩
      rw [e2, ← h2, List.drop_length, List.append_nil]
    rw [List.drop_length] at v
    cases v
    exact B
  · obtain ⟨ds, v, B⟩ := F.binds1 (ps := ps) n 0 hd (by omega) fun T kV doc pm an cdv ct us its h1 h2 => b1 T kV doc pm an cdv ct us its h1 h2
    exact ⟨ds, v, B⟩
theorem c_is_whole (T : Tx K mg base) : Can P w K mg base 1 "is_whole" s_is_whole ["value"] sp_is_whole :=
  can_of T.h_is_whole sc_is_whole (fun ds s Q h => by
    first
    | (obtain ⟨_, rfl, _⟩ := h; rfl)
    | (obtain ⟨_, _, rfl, _⟩ := h; rfl)
    | (obtain ⟨_, _, _, rfl, _⟩ := h; rfl)
    | (obtain ⟨_, _, _, _, rfl, _⟩ := h; rfl)
    | (obtain ⟨_, _, _, _, _, rfl, _⟩ := h; rfl)
    | (obtain ⟨_, _, _, _, _, _, rfl, _⟩ := h; rfl)
    | (obtain ⟨_, _, _, _, _, _, _, rfl, _⟩ := h; rfl)
    | (obtain ⟨_, _, _, _, _, _, _, _, rfl, _⟩ := h; rfl)
    | (obtain ⟨_, _, _, _, _, _, _, _, _, rfl, _⟩ := h; rfl)
    | (unfold sp_is_whole at h; split at h <;> first | rfl | exact h.elim)) (fun _ _ _ _ _ _ us hl => match us, hl with | [_], _ => rfl) (fun f cd A outer s H E hG hr => t_is_whole (k := 0) (by omega) T  f cd A outer s H E hG hr) r_is_whole
theorem c_is_row (T : Tx K mg base) : Can P w K mg base 1 "is_row" s_is_row ["value", "low", "high"] sp_is_row :=
  can_of T.h_is_row sc_is_row (fun ds s Q h => by
    first
    | (obtain ⟨_, rfl, _⟩ := h; rfl)
    | (obtain ⟨_, _, rfl, _⟩ := h; rfl)
    | (obtain ⟨_, _, _, rfl, _⟩ := h; rfl)
    | (obtain ⟨_, _, _, _, rfl, _⟩ := h; rfl)
    | (obtain ⟨_, _, _, _, _, rfl, _⟩ := h; rfl)
    | (obtain ⟨_, _, _, _, _, _, rfl, _⟩ := h; rfl)
    | (obtain ⟨_, _, _, _, _, _, _, rfl, _⟩ := h; rfl)
    | (obtain ⟨_, _, _, _, _, _, _, _, rfl, _⟩ := h; rfl)
    | (obtain ⟨_, _, _, _, _, _, _, _, _, rfl, _⟩ := h; rfl)
    | (unfold sp_is_row at h; split at h <;> first | rfl | exact h.elim)) (fun _ _ _ _ _ _ us hl => match us, hl with | [_, _, _], _ => rfl) (fun f cd A outer s H E hG hr => t_is_row (k := 0) (by omega) T  f cd A outer s H E hG hr) r_is_row
theorem c_is_fraction (T : Tx K mg base) : Can P w K mg base 2 "is_fraction" s_is_fraction ["value"] sp_is_fraction :=
  can_of T.h_is_fraction sc_is_fraction (fun ds s Q h => by
    first
    | (obtain ⟨_, rfl, _⟩ := h; rfl)
    | (obtain ⟨_, _, rfl, _⟩ := h; rfl)
    | (obtain ⟨_, _, _, rfl, _⟩ := h; rfl)
    | (obtain ⟨_, _, _, _, rfl, _⟩ := h; rfl)
    | (obtain ⟨_, _, _, _, _, rfl, _⟩ := h; rfl)
    | (obtain ⟨_, _, _, _, _, _, rfl, _⟩ := h; rfl)
    | (obtain ⟨_, _, _, _, _, _, _, rfl, _⟩ := h; rfl)
    | (obtain ⟨_, _, _, _, _, _, _, _, rfl, _⟩ := h; rfl)
    | (obtain ⟨_, _, _, _, _, _, _, _, _, rfl, _⟩ := h; rfl)
    | (unfold sp_is_fraction at h; split at h <;> first | rfl | exact h.elim)) (fun _ _ _ _ _ _ us hl => match us, hl with | [_], _ => rfl) (fun f cd A outer s H E hG hr => t_is_fraction (k := 1) (by omega) T (c_is_row T) (c_is_whole T) f cd A outer s H E hG hr) r_is_fraction
theorem c_is_place (T : Tx K mg base) : Can P w K mg base 3 "is_place" s_is_place ["value"] sp_is_place :=
  can_of T.h_is_place sc_is_place (fun ds s Q h => by
    first
    | (obtain ⟨_, rfl, _⟩ := h; rfl)
    | (obtain ⟨_, _, rfl, _⟩ := h; rfl)
    | (obtain ⟨_, _, _, rfl, _⟩ := h; rfl)
    | (obtain ⟨_, _, _, _, rfl, _⟩ := h; rfl)
    | (obtain ⟨_, _, _, _, _, rfl, _⟩ := h; rfl)
    | (obtain ⟨_, _, _, _, _, _, rfl, _⟩ := h; rfl)
    | (obtain ⟨_, _, _, _, _, _, _, rfl, _⟩ := h; rfl)
    | (obtain ⟨_, _, _, _, _, _, _, _, rfl, _⟩ := h; rfl)
    | (obtain ⟨_, _, _, _, _, _, _, _, _, rfl, _⟩ := h; rfl)
    | (unfold sp_is_place at h; split at h <;> first | rfl | exact h.elim)) (fun _ _ _ _ _ _ us hl => match us, hl with | [_], _ => rfl) (fun f cd A outer s H E hG hr => t_is_place (k := 2) (by omega) T (c_is_row T) (c_is_fraction T) f cd A outer s H E hG hr) r_is_place
theorem c_is_line (T : Tx K mg base) : Can P w K mg base 5 "is_line" s_is_line ["value", "least"] sp_is_line :=
  can_ofT T.h_is_line sc_is_line (fun ds s Q h => by
    first
    | (obtain ⟨_, rfl, _⟩ := h; rfl)
    | (obtain ⟨_, _, rfl, _⟩ := h; rfl)
    | (obtain ⟨_, _, _, rfl, _⟩ := h; rfl)
    | (obtain ⟨_, _, _, _, rfl, _⟩ := h; rfl)
    | (obtain ⟨_, _, _, _, _, rfl, _⟩ := h; rfl)
    | (obtain ⟨_, _, _, _, _, _, rfl, _⟩ := h; rfl)
    | (obtain ⟨_, _, _, _, _, _, _, rfl, _⟩ := h; rfl)
    | (obtain ⟨_, _, _, _, _, _, _, _, rfl, _⟩ := h; rfl)
    | (obtain ⟨_, _, _, _, _, _, _, _, _, rfl, _⟩ := h; rfl)
    | (unfold sp_is_line at h; split at h <;> first | rfl | exact h.elim)) (fun _ _ _ _ _ _ us hl => match us, hl with | [_, _], _ => rfl) (fun f c PT hPT TB A outer s H E hG hr => t_is_line (k := 4) (by omega) T (c_is_row T) (c_is_place T) f c PT hPT TB A outer s H E hG hr) r_is_line
theorem c_is_basic (T : Tx K mg base) : Can P w K mg base 6 "is_basic" s_is_basic ["kind", "told"] sp_is_basic :=
  can_of T.h_is_basic sc_is_basic (fun ds s Q h => by
    first
    | (obtain ⟨_, rfl, _⟩ := h; rfl)
    | (obtain ⟨_, _, rfl, _⟩ := h; rfl)
    | (obtain ⟨_, _, _, rfl, _⟩ := h; rfl)
    | (obtain ⟨_, _, _, _, rfl, _⟩ := h; rfl)
    | (obtain ⟨_, _, _, _, _, rfl, _⟩ := h; rfl)
    | (obtain ⟨_, _, _, _, _, _, rfl, _⟩ := h; rfl)
    | (obtain ⟨_, _, _, _, _, _, _, rfl, _⟩ := h; rfl)
    | (obtain ⟨_, _, _, _, _, _, _, _, rfl, _⟩ := h; rfl)
    | (obtain ⟨_, _, _, _, _, _, _, _, _, rfl, _⟩ := h; rfl)
    | (unfold sp_is_basic at h; split at h <;> first | rfl | exact h.elim)) (fun _ _ _ _ _ _ us hl => match us, hl with | [_, _], _ => rfl) (fun f cd A outer s H E hG hr => t_is_basic (k := 5) (by omega) T (c_is_place T) (c_is_line T) f cd A outer s H E hG hr) r_is_basic
theorem c_is_figure_formK (T : Tx K mg base) : ∀ n : Nat, CanD P w K mg base (7 + n) "is_figure_form" [V.int 6] ["value", "deep"] (sp_is_figure_formK n)
  | 0 => canD_of T.h_is_figure_form sc_is_figure_form (by simp) 1 (by rfl) (fun _ _ _ _ _ _ _ us its hl h2 => match us, hl, its, h2 with | [_, _], _, [_], _ => ⟨_, rfl, rfl⟩) (fun _ _ _ _ _ _ _ us its hl h2 => match us, hl, its, h2 with | [_], _, [_], _ => ⟨_, rfl, rfl⟩) (fun ds s Q h => by
    first
    | (obtain ⟨_, rfl, _⟩ := h; rfl)
    | (obtain ⟨_, _, rfl, _⟩ := h; rfl)
    | (obtain ⟨_, _, _, rfl, _⟩ := h; rfl)
    | (obtain ⟨_, _, _, _, rfl, _⟩ := h; rfl)
    | (obtain ⟨_, _, _, _, _, rfl, _⟩ := h; rfl)
    | (obtain ⟨_, _, _, _, _, _, rfl, _⟩ := h; rfl)
    | (obtain ⟨_, _, _, _, _, _, _, rfl, _⟩ := h; rfl)
    | (obtain ⟨_, _, _, _, _, _, _, _, rfl, _⟩ := h; rfl)
    | (obtain ⟨_, _, _, _, _, _, _, _, _, rfl, _⟩ := h; rfl)
    | (unfold sp_is_figure_formK at h; split at h <;> first | rfl | exact h.elim)) (fun f cd A outer s H E hG hr => t_is_figure_form (k := 6) (by omega) T (c_is_row T) (canD_none T.h_is_figure_form (by simp) 1 (by rfl) (fun _ _ _ _ _ _ _ us its hl h2 => match us, hl, its, h2 with | [_, _], _, [_], _ => ⟨_, rfl, rfl⟩) (fun _ _ _ _ _ _ _ us its hl h2 => match us, hl, its, h2 with | [_], _, [_], _ => ⟨_, rfl, rfl⟩)) (c_is_basic T) f cd A outer s H E hG hr) (r_is_figure_form 0 _ (fun m e => by cases e))
  | n + 1 => canD_of T.h_is_figure_form sc_is_figure_form (by simp) 1 (by rfl) (fun _ _ _ _ _ _ _ us its hl h2 => match us, hl, its, h2 with | [_, _], _, [_], _ => ⟨_, rfl, rfl⟩) (fun _ _ _ _ _ _ _ us its hl h2 => match us, hl, its, h2 with | [_], _, [_], _ => ⟨_, rfl, rfl⟩) (fun ds s Q h => by
    first
    | (obtain ⟨_, rfl, _⟩ := h; rfl)
    | (obtain ⟨_, _, rfl, _⟩ := h; rfl)
    | (obtain ⟨_, _, _, rfl, _⟩ := h; rfl)
    | (obtain ⟨_, _, _, _, rfl, _⟩ := h; rfl)
    | (obtain ⟨_, _, _, _, _, rfl, _⟩ := h; rfl)
    | (obtain ⟨_, _, _, _, _, _, rfl, _⟩ := h; rfl)
    | (obtain ⟨_, _, _, _, _, _, _, rfl, _⟩ := h; rfl)
    | (obtain ⟨_, _, _, _, _, _, _, _, rfl, _⟩ := h; rfl)
    | (obtain ⟨_, _, _, _, _, _, _, _, _, rfl, _⟩ := h; rfl)
    | (unfold sp_is_figure_formK at h; split at h <;> first | rfl | exact h.elim)) (fun f cd A outer s H E hG hr => t_is_figure_form (k := 7 + n) (by omega) T (c_is_row T) (c_is_figure_formK T n) (c_is_basic T) f cd A outer s H E hG hr) (r_is_figure_form (n + 1) _ (fun m e ds st Q h => by cases e; exact h))
theorem c_is_figure_form (T : Tx K mg base) : CanD P w K mg base 20 "is_figure_form" [V.int 6] ["value", "deep"] sp_is_figure_form := by
  obtain ⟨f, fd, F, h⟩ := (c_is_figure_formK (P := P) (w := w) (base := base) T 6).ex
  exact ⟨f, fd, FnG.mono F (by omega), h⟩
theorem c_basics_ofK (T : Tx K mg base) : ∀ n : Nat, Can P w K mg base (1 + n) "basics_of" s_basics_of ["figure"] (sp_basics_ofK n)
  | 0 => can_of T.h_basics_of sc_basics_of (fun ds s Q h => by
    first
    | (obtain ⟨_, rfl, _⟩ := h; rfl)
    | (obtain ⟨_, _, rfl, _⟩ := h; rfl)
    | (obtain ⟨_, _, _, rfl, _⟩ := h; rfl)
    | (obtain ⟨_, _, _, _, rfl, _⟩ := h; rfl)
    | (obtain ⟨_, _, _, _, _, rfl, _⟩ := h; rfl)
    | (obtain ⟨_, _, _, _, _, _, rfl, _⟩ := h; rfl)
    | (obtain ⟨_, _, _, _, _, _, _, rfl, _⟩ := h; rfl)
    | (obtain ⟨_, _, _, _, _, _, _, _, rfl, _⟩ := h; rfl)
    | (obtain ⟨_, _, _, _, _, _, _, _, _, rfl, _⟩ := h; rfl)
    | (unfold sp_basics_ofK at h; split at h <;> first | rfl | exact h.elim)) (fun _ _ _ _ _ _ us hl => match us, hl with | [_], _ => rfl) (fun f cd A outer s H E hG hr => t_basics_of (k := 0) (by omega) T (can_none T.h_basics_of (fun _ _ _ _ _ _ us hl => match us, hl with | [_], _ => rfl)) f cd A outer s H E hG hr) (r_basics_of 0 _ (fun m e => by cases e))
  | n + 1 => can_of T.h_basics_of sc_basics_of (fun ds s Q h => by
    first
    | (obtain ⟨_, rfl, _⟩ := h; rfl)
    | (obtain ⟨_, _, rfl, _⟩ := h; rfl)
    | (obtain ⟨_, _, _, rfl, _⟩ := h; rfl)
    | (obtain ⟨_, _, _, _, rfl, _⟩ := h; rfl)
    | (obtain ⟨_, _, _, _, _, rfl, _⟩ := h; rfl)
    | (obtain ⟨_, _, _, _, _, _, rfl, _⟩ := h; rfl)
    | (obtain ⟨_, _, _, _, _, _, _, rfl, _⟩ := h; rfl)
    | (obtain ⟨_, _, _, _, _, _, _, _, rfl, _⟩ := h; rfl)
    | (obtain ⟨_, _, _, _, _, _, _, _, _, rfl, _⟩ := h; rfl)
    | (unfold sp_basics_ofK at h; split at h <;> first | rfl | exact h.elim)) (fun _ _ _ _ _ _ us hl => match us, hl with | [_], _ => rfl) (fun f cd A outer s H E hG hr => t_basics_of (k := 1 + n) (by omega) T (c_basics_ofK T n) f cd A outer s H E hG hr) (r_basics_of (n + 1) _ (fun m e ds st Q h => by cases e; exact h))
theorem c_basics_of (T : Tx K mg base) : Can P w K mg base 12 "basics_of" s_basics_of ["figure"] sp_basics_of := (c_basics_ofK T 6).lift (by omega)
theorem c_lines_of_basic (T : Tx K mg base) : Can P w K mg base 1 "lines_of_basic" s_lines_of_basic ["figure"] sp_lines_of_basic :=
  can_of T.h_lines_of_basic sc_lines_of_basic (fun ds s Q h => by
    first
    | (obtain ⟨_, rfl, _⟩ := h; rfl)
    | (obtain ⟨_, _, rfl, _⟩ := h; rfl)
    | (obtain ⟨_, _, _, rfl, _⟩ := h; rfl)
    | (obtain ⟨_, _, _, _, rfl, _⟩ := h; rfl)
    | (obtain ⟨_, _, _, _, _, rfl, _⟩ := h; rfl)
    | (obtain ⟨_, _, _, _, _, _, rfl, _⟩ := h; rfl)
    | (obtain ⟨_, _, _, _, _, _, _, rfl, _⟩ := h; rfl)
    | (obtain ⟨_, _, _, _, _, _, _, _, rfl, _⟩ := h; rfl)
    | (obtain ⟨_, _, _, _, _, _, _, _, _, rfl, _⟩ := h; rfl)
    | (unfold sp_lines_of_basic at h; split at h <;> first | rfl | exact h.elim)) (fun _ _ _ _ _ _ us hl => match us, hl with | [_], _ => rfl) (fun f cd A outer s H E hG hr => t_lines_of_basic (k := 0) (by omega) T  f cd A outer s H E hG hr) r_lines_of_basic
theorem c_lines_in (T : Tx K mg base) : Can P w K mg base 13 "lines_in" s_lines_in ["figure"] sp_lines_in :=
  can_of T.h_lines_in sc_lines_in (fun ds s Q h => by
    first
    | (obtain ⟨_, rfl, _⟩ := h; rfl)
    | (obtain ⟨_, _, rfl, _⟩ := h; rfl)
    | (obtain ⟨_, _, _, rfl, _⟩ := h; rfl)
    | (obtain ⟨_, _, _, _, rfl, _⟩ := h; rfl)
    | (obtain ⟨_, _, _, _, _, rfl, _⟩ := h; rfl)
    | (obtain ⟨_, _, _, _, _, _, rfl, _⟩ := h; rfl)
    | (obtain ⟨_, _, _, _, _, _, _, rfl, _⟩ := h; rfl)
    | (obtain ⟨_, _, _, _, _, _, _, _, rfl, _⟩ := h; rfl)
    | (obtain ⟨_, _, _, _, _, _, _, _, _, rfl, _⟩ := h; rfl)
    | (unfold sp_lines_in at h; split at h <;> first | rfl | exact h.elim)) (fun _ _ _ _ _ _ us hl => match us, hl with | [_], _ => rfl) (fun f cd A outer s H E hG hr => t_lines_in (k := 12) (by omega) T (c_basics_of T) (c_lines_of_basic T) f cd A outer s H E hG hr) r_lines_in
theorem c_is_figure (T : Tx K mg base) : Can P w K mg base 21 "is_figure" s_is_figure ["value"] sp_is_figure :=
  can_of T.h_is_figure sc_is_figure (fun ds s Q h => by
    first
    | (obtain ⟨_, rfl, _⟩ := h; rfl)
    | (obtain ⟨_, _, rfl, _⟩ := h; rfl)
    | (obtain ⟨_, _, _, rfl, _⟩ := h; rfl)
    | (obtain ⟨_, _, _, _, rfl, _⟩ := h; rfl)
    | (obtain ⟨_, _, _, _, _, rfl, _⟩ := h; rfl)
    | (obtain ⟨_, _, _, _, _, _, rfl, _⟩ := h; rfl)
    | (obtain ⟨_, _, _, _, _, _, _, rfl, _⟩ := h; rfl)
    | (obtain ⟨_, _, _, _, _, _, _, _, rfl, _⟩ := h; rfl)
    | (obtain ⟨_, _, _, _, _, _, _, _, _, rfl, _⟩ := h; rfl)
    | (unfold sp_is_figure at h; split at h <;> first | rfl | exact h.elim)) (fun _ _ _ _ _ _ us hl => match us, hl with | [_], _ => rfl) (fun f cd A outer s H E hG hr => t_is_figure (k := 20) (by omega) T (c_is_figure_form T) (c_lines_in T) f cd A outer s H E hG hr) r_is_figure
theorem c_spring (T : Tx K mg base) : Can P w K mg base 1 "_law_spring" s_spring ["_law_script", "_law_turn"] sp_spring :=
  can_of T.h_spring sc_spring (fun ds s Q h => by
    first
    | (obtain ⟨_, rfl, _⟩ := h; rfl)
    | (obtain ⟨_, _, rfl, _⟩ := h; rfl)
    | (obtain ⟨_, _, _, rfl, _⟩ := h; rfl)
    | (obtain ⟨_, _, _, _, rfl, _⟩ := h; rfl)
    | (obtain ⟨_, _, _, _, _, rfl, _⟩ := h; rfl)
    | (obtain ⟨_, _, _, _, _, _, rfl, _⟩ := h; rfl)
    | (obtain ⟨_, _, _, _, _, _, _, rfl, _⟩ := h; rfl)
    | (obtain ⟨_, _, _, _, _, _, _, _, rfl, _⟩ := h; rfl)
    | (obtain ⟨_, _, _, _, _, _, _, _, _, rfl, _⟩ := h; rfl)
    | (unfold sp_spring at h; split at h <;> first | rfl | exact h.elim)) (fun _ _ _ _ _ _ us hl => match us, hl with | [_, _], _ => rfl) (fun f cd A outer s H E hG hr => t_spring (k := 0) (by omega) T  f cd A outer s H E hG hr) r_spring
theorem c_draw (T : Tx K mg base) : Can P w K mg base 1 "_law_draw" s_draw ["_law_spring_here", "_law_many"] sp_draw :=
  can_of T.h_draw sc_draw (fun ds s Q h => by
    first
    | (obtain ⟨_, rfl, _⟩ := h; rfl)
    | (obtain ⟨_, _, rfl, _⟩ := h; rfl)
    | (obtain ⟨_, _, _, rfl, _⟩ := h; rfl)
    | (obtain ⟨_, _, _, _, rfl, _⟩ := h; rfl)
    | (obtain ⟨_, _, _, _, _, rfl, _⟩ := h; rfl)
    | (obtain ⟨_, _, _, _, _, _, rfl, _⟩ := h; rfl)
    | (obtain ⟨_, _, _, _, _, _, _, rfl, _⟩ := h; rfl)
    | (obtain ⟨_, _, _, _, _, _, _, _, rfl, _⟩ := h; rfl)
    | (obtain ⟨_, _, _, _, _, _, _, _, _, rfl, _⟩ := h; rfl)
    | (unfold sp_draw at h; split at h <;> first | rfl | exact h.elim)) (fun _ _ _ _ _ _ us hl => match us, hl with | [_, _], _ => rfl) (fun f cd A outer s H E hG hr => t_draw (k := 0) (by omega) T  f cd A outer s H E hG hr) r_draw
theorem c_one_of (T : Tx K mg base) : Can P w K mg base 2 "_law_one_of" s_one_of ["_law_spring_here", "_law_some"] sp_one_of :=
  can_of T.h_one_of sc_one_of (fun ds s Q h => by
    first
    | (obtain ⟨_, rfl, _⟩ := h; rfl)
    | (obtain ⟨_, _, rfl, _⟩ := h; rfl)
    | (obtain ⟨_, _, _, rfl, _⟩ := h; rfl)
    | (obtain ⟨_, _, _, _, rfl, _⟩ := h; rfl)
    | (obtain ⟨_, _, _, _, _, rfl, _⟩ := h; rfl)
    | (obtain ⟨_, _, _, _, _, _, rfl, _⟩ := h; rfl)
    | (obtain ⟨_, _, _, _, _, _, _, rfl, _⟩ := h; rfl)
    | (obtain ⟨_, _, _, _, _, _, _, _, rfl, _⟩ := h; rfl)
    | (obtain ⟨_, _, _, _, _, _, _, _, _, rfl, _⟩ := h; rfl)
    | (unfold sp_one_of at h; split at h <;> first | rfl | exact h.elim)) (fun _ _ _ _ _ _ us hl => match us, hl with | [_, _], _ => rfl) (fun f cd A outer s H E hG hr => t_one_of (k := 1) (by omega) T (c_draw T) f cd A outer s H E hG hr) r_one_of
theorem c_divisor (T : Tx K mg base) : Can P w K mg base 1 "_law_divisor" s_divisor ["_law_one", "_law_two"] sp_divisor :=
  can_of T.h_divisor sc_divisor (fun ds s Q h => by
    first
    | (obtain ⟨_, rfl, _⟩ := h; rfl)
    | (obtain ⟨_, _, rfl, _⟩ := h; rfl)
    | (obtain ⟨_, _, _, rfl, _⟩ := h; rfl)
    | (obtain ⟨_, _, _, _, rfl, _⟩ := h; rfl)
    | (obtain ⟨_, _, _, _, _, rfl, _⟩ := h; rfl)
    | (obtain ⟨_, _, _, _, _, _, rfl, _⟩ := h; rfl)
    | (obtain ⟨_, _, _, _, _, _, _, rfl, _⟩ := h; rfl)
    | (obtain ⟨_, _, _, _, _, _, _, _, rfl, _⟩ := h; rfl)
    | (obtain ⟨_, _, _, _, _, _, _, _, _, rfl, _⟩ := h; rfl)
    | (unfold sp_divisor at h; split at h <;> first | rfl | exact h.elim)) (fun _ _ _ _ _ _ us hl => match us, hl with | [_, _], _ => rfl) (fun f cd A outer s H E hG hr => t_divisor (k := 0) (by omega) T  f cd A outer s H E hG hr) r_divisor
theorem c_part (T : Tx K mg base) : Can P w K mg base 2 "_law_part" s_part ["_law_top", "_law_base"] sp_part :=
  can_of T.h_part sc_part (fun ds s Q h => by
    first
    | (obtain ⟨_, rfl, _⟩ := h; rfl)
    | (obtain ⟨_, _, rfl, _⟩ := h; rfl)
    | (obtain ⟨_, _, _, rfl, _⟩ := h; rfl)
    | (obtain ⟨_, _, _, _, rfl, _⟩ := h; rfl)
    | (obtain ⟨_, _, _, _, _, rfl, _⟩ := h; rfl)
    | (obtain ⟨_, _, _, _, _, _, rfl, _⟩ := h; rfl)
    | (obtain ⟨_, _, _, _, _, _, _, rfl, _⟩ := h; rfl)
    | (obtain ⟨_, _, _, _, _, _, _, _, rfl, _⟩ := h; rfl)
    | (obtain ⟨_, _, _, _, _, _, _, _, _, rfl, _⟩ := h; rfl)
    | (unfold sp_part at h; split at h <;> first | rfl | exact h.elim)) (fun _ _ _ _ _ _ us hl => match us, hl with | [_, _], _ => rfl) (fun f cd A outer s H E hG hr => t_part (k := 1) (by omega) T (c_divisor T) f cd A outer s H E hG hr) r_part
theorem c_frame (T : Tx K mg base) : Can P w K mg base 3 "_law_frame" s_frame ["_law_spring_here"] sp_frame :=
  can_of T.h_frame sc_frame (fun ds s Q h => by
    first
    | (obtain ⟨_, rfl, _⟩ := h; rfl)
    | (obtain ⟨_, _, rfl, _⟩ := h; rfl)
    | (obtain ⟨_, _, _, rfl, _⟩ := h; rfl)
    | (obtain ⟨_, _, _, _, rfl, _⟩ := h; rfl)
    | (obtain ⟨_, _, _, _, _, rfl, _⟩ := h; rfl)
    | (obtain ⟨_, _, _, _, _, _, rfl, _⟩ := h; rfl)
    | (obtain ⟨_, _, _, _, _, _, _, rfl, _⟩ := h; rfl)
    | (obtain ⟨_, _, _, _, _, _, _, _, rfl, _⟩ := h; rfl)
    | (obtain ⟨_, _, _, _, _, _, _, _, _, rfl, _⟩ := h; rfl)
    | (unfold sp_frame at h; split at h <;> first | rfl | exact h.elim)) (fun _ _ _ _ _ _ us hl => match us, hl with | [_], _ => rfl) (fun f cd A outer s H E hG hr => t_frame (k := 2) (by omega) T (c_one_of T) f cd A outer s H E hG hr) r_frame
theorem c_grid (T : Tx K mg base) : Can P w K mg base 3 "_law_grid" s_grid ["_law_frame_here", "_law_i", "_law_j", "_law_n"] sp_grid :=
  can_of T.h_grid sc_grid (fun ds s Q h => by
    first
    | (obtain ⟨_, rfl, _⟩ := h; rfl)
    | (obtain ⟨_, _, rfl, _⟩ := h; rfl)
    | (obtain ⟨_, _, _, rfl, _⟩ := h; rfl)
    | (obtain ⟨_, _, _, _, rfl, _⟩ := h; rfl)
    | (obtain ⟨_, _, _, _, _, rfl, _⟩ := h; rfl)
    | (obtain ⟨_, _, _, _, _, _, rfl, _⟩ := h; rfl)
    | (obtain ⟨_, _, _, _, _, _, _, rfl, _⟩ := h; rfl)
    | (obtain ⟨_, _, _, _, _, _, _, _, rfl, _⟩ := h; rfl)
    | (obtain ⟨_, _, _, _, _, _, _, _, _, rfl, _⟩ := h; rfl)
    | (unfold sp_grid at h; split at h <;> first | rfl | exact h.elim)) (fun _ _ _ _ _ _ us hl => match us, hl with | [_, _, _, _], _ => rfl) (fun f cd A outer s H E hG hr => t_grid (k := 2) (by omega) T (c_part T) f cd A outer s H E hG hr) r_grid
theorem c_dot (T : Tx K mg base) : Can P w K mg base 4 "_law_dot" s_dot ["_law_spring_here", "_law_frame_here"] sp_dot :=
  can_of T.h_dot sc_dot (fun ds s Q h => by
    first
    | (obtain ⟨_, rfl, _⟩ := h; rfl)
    | (obtain ⟨_, _, rfl, _⟩ := h; rfl)
    | (obtain ⟨_, _, _, rfl, _⟩ := h; rfl)
    | (obtain ⟨_, _, _, _, rfl, _⟩ := h; rfl)
    | (obtain ⟨_, _, _, _, _, rfl, _⟩ := h; rfl)
    | (obtain ⟨_, _, _, _, _, _, rfl, _⟩ := h; rfl)
    | (obtain ⟨_, _, _, _, _, _, _, rfl, _⟩ := h; rfl)
    | (obtain ⟨_, _, _, _, _, _, _, _, rfl, _⟩ := h; rfl)
    | (obtain ⟨_, _, _, _, _, _, _, _, _, rfl, _⟩ := h; rfl)
    | (unfold sp_dot at h; split at h <;> first | rfl | exact h.elim)) (fun _ _ _ _ _ _ us hl => match us, hl with | [_, _], _ => rfl) (fun f cd A outer s H E hG hr => t_dot (k := 3) (by omega) T (c_one_of T) (c_draw T) (c_grid T) f cd A outer s H E hG hr) r_dot
theorem c_row (T : Tx K mg base) : Can P w K mg base 4 "_law_row" s_row ["_law_spring_here", "_law_frame_here", "_law_many", "_law_is_closed"] sp_row :=
  can_ofS T.h_row sc_row (fun ds s Q h => by
    first
    | (obtain ⟨_, rfl, _⟩ := h; rfl)
    | (obtain ⟨_, _, rfl, _⟩ := h; rfl)
    | (obtain ⟨_, _, _, rfl, _⟩ := h; rfl)
    | (obtain ⟨_, _, _, _, rfl, _⟩ := h; rfl)
    | (obtain ⟨_, _, _, _, _, rfl, _⟩ := h; rfl)
    | (obtain ⟨_, _, _, _, _, _, rfl, _⟩ := h; rfl)
    | (obtain ⟨_, _, _, _, _, _, _, rfl, _⟩ := h; rfl)
    | (obtain ⟨_, _, _, _, _, _, _, _, rfl, _⟩ := h; rfl)
    | (obtain ⟨_, _, _, _, _, _, _, _, _, rfl, _⟩ := h; rfl)
    | (unfold sp_row at h; split at h <;> first | rfl | exact h.elim)) (fun _ _ _ _ _ _ us hl => match us, hl with | [_, _, _, _], _ => rfl) (fun f cd A outer s H E hG hr => t_row (k := 3) (by omega) T (c_draw T) (c_one_of T) (c_grid T) f cd A outer s H E hG hr) r_row
theorem c_box (T : Tx K mg base) : Can P w K mg base 4 "_law_box" s_box ["_law_spring_here", "_law_frame_here"] sp_box :=
  can_of T.h_box sc_box (fun ds s Q h => by
    first
    | (obtain ⟨_, rfl, _⟩ := h; rfl)
    | (obtain ⟨_, _, rfl, _⟩ := h; rfl)
    | (obtain ⟨_, _, _, rfl, _⟩ := h; rfl)
    | (obtain ⟨_, _, _, _, rfl, _⟩ := h; rfl)
    | (obtain ⟨_, _, _, _, _, rfl, _⟩ := h; rfl)
    | (obtain ⟨_, _, _, _, _, _, rfl, _⟩ := h; rfl)
    | (obtain ⟨_, _, _, _, _, _, _, rfl, _⟩ := h; rfl)
    | (obtain ⟨_, _, _, _, _, _, _, _, rfl, _⟩ := h; rfl)
    | (obtain ⟨_, _, _, _, _, _, _, _, _, rfl, _⟩ := h; rfl)
    | (unfold sp_box at h; split at h <;> first | rfl | exact h.elim)) (fun _ _ _ _ _ _ us hl => match us, hl with | [_, _], _ => rfl) (fun f cd A outer s H E hG hr => t_box (k := 3) (by omega) T (c_draw T) (c_grid T) f cd A outer s H E hG hr) r_box
theorem c_pairs (T : Tx K mg base) : Can P w K mg base 1 "_law_pairs" s_pairs ["_law_row_here", "_law_is_closed"] sp_pairs :=
  can_of T.h_pairs sc_pairs (fun ds s Q h => by
    first
    | (obtain ⟨_, rfl, _⟩ := h; rfl)
    | (obtain ⟨_, _, rfl, _⟩ := h; rfl)
    | (obtain ⟨_, _, _, rfl, _⟩ := h; rfl)
    | (obtain ⟨_, _, _, _, rfl, _⟩ := h; rfl)
    | (obtain ⟨_, _, _, _, _, rfl, _⟩ := h; rfl)
    | (obtain ⟨_, _, _, _, _, _, rfl, _⟩ := h; rfl)
    | (obtain ⟨_, _, _, _, _, _, _, rfl, _⟩ := h; rfl)
    | (obtain ⟨_, _, _, _, _, _, _, _, rfl, _⟩ := h; rfl)
    | (obtain ⟨_, _, _, _, _, _, _, _, _, rfl, _⟩ := h; rfl)
    | (unfold sp_pairs at h; split at h <;> first | rfl | exact h.elim)) (fun _ _ _ _ _ _ us hl => match us, hl with | [_, _], _ => rfl) (fun f cd A outer s H E hG hr => t_pairs (k := 0) (by omega) T  f cd A outer s H E hG hr) r_pairs
theorem c_leaf (T : Tx K mg base) : Can P w K mg base 5 "_law_leaf" s_leaf ["_law_spring_here", "_law_frame_here", "_law_room"] sp_leaf :=
  can_of T.h_leaf sc_leaf (fun ds s Q h => by
    first
    | (obtain ⟨_, rfl, _⟩ := h; rfl)
    | (obtain ⟨_, _, rfl, _⟩ := h; rfl)
    | (obtain ⟨_, _, _, rfl, _⟩ := h; rfl)
    | (obtain ⟨_, _, _, _, rfl, _⟩ := h; rfl)
    | (obtain ⟨_, _, _, _, _, rfl, _⟩ := h; rfl)
    | (obtain ⟨_, _, _, _, _, _, rfl, _⟩ := h; rfl)
    | (obtain ⟨_, _, _, _, _, _, _, rfl, _⟩ := h; rfl)
    | (obtain ⟨_, _, _, _, _, _, _, _, rfl, _⟩ := h; rfl)
    | (obtain ⟨_, _, _, _, _, _, _, _, _, rfl, _⟩ := h; rfl)
    | (unfold sp_leaf at h; split at h <;> first | rfl | exact h.elim)) (fun _ _ _ _ _ _ us hl => match us, hl with | [_, _, _], _ => rfl) (fun f cd A outer s H E hG hr => t_leaf (k := 4) (by omega) T (c_one_of T) (c_draw T) (c_box T) (c_row T) (c_dot T) f cd A outer s H E hG hr) r_leaf
theorem c_figureK (T : Tx K mg base) : ∀ n : Nat, Can P w K mg base (6 + n) "_law_figure" s_figure ["_law_spring_here", "_law_frame_here", "_law_deep", "_law_room"] (sp_figureK n)
  | 0 => can_of T.h_figure sc_figure (fun ds s Q h => by
    first
    | (obtain ⟨_, rfl, _⟩ := h; rfl)
    | (obtain ⟨_, _, rfl, _⟩ := h; rfl)
    | (obtain ⟨_, _, _, rfl, _⟩ := h; rfl)
    | (obtain ⟨_, _, _, _, rfl, _⟩ := h; rfl)
    | (obtain ⟨_, _, _, _, _, rfl, _⟩ := h; rfl)
    | (obtain ⟨_, _, _, _, _, _, rfl, _⟩ := h; rfl)
    | (obtain ⟨_, _, _, _, _, _, _, rfl, _⟩ := h; rfl)
    | (obtain ⟨_, _, _, _, _, _, _, _, rfl, _⟩ := h; rfl)
    | (obtain ⟨_, _, _, _, _, _, _, _, _, rfl, _⟩ := h; rfl)
    | (unfold sp_figureK at h; split at h <;> first | rfl | exact h.elim)) (fun _ _ _ _ _ _ us hl => match us, hl with | [_, _, _, _], _ => rfl) (fun f cd A outer s H E hG hr => t_figure (k := 5) (by omega) T (c_one_of T) (c_leaf T) (can_none T.h_figure (fun _ _ _ _ _ _ us hl => match us, hl with | [_, _, _, _], _ => rfl)) f cd A outer s H E hG hr) (r_figure 0 _ (fun m e => by cases e))
  | n + 1 => can_of T.h_figure sc_figure (fun ds s Q h => by
    first
    | (obtain ⟨_, rfl, _⟩ := h; rfl)
    | (obtain ⟨_, _, rfl, _⟩ := h; rfl)
    | (obtain ⟨_, _, _, rfl, _⟩ := h; rfl)
    | (obtain ⟨_, _, _, _, rfl, _⟩ := h; rfl)
    | (obtain ⟨_, _, _, _, _, rfl, _⟩ := h; rfl)
    | (obtain ⟨_, _, _, _, _, _, rfl, _⟩ := h; rfl)
    | (obtain ⟨_, _, _, _, _, _, _, rfl, _⟩ := h; rfl)
    | (obtain ⟨_, _, _, _, _, _, _, _, rfl, _⟩ := h; rfl)
    | (obtain ⟨_, _, _, _, _, _, _, _, _, rfl, _⟩ := h; rfl)
    | (unfold sp_figureK at h; split at h <;> first | rfl | exact h.elim)) (fun _ _ _ _ _ _ us hl => match us, hl with | [_, _, _, _], _ => rfl) (fun f cd A outer s H E hG hr => t_figure (k := 6 + n) (by omega) T (c_one_of T) (c_leaf T) (c_figureK T n) f cd A outer s H E hG hr) (r_figure (n + 1) _ (fun m e ds st Q h => by cases e; exact h))
theorem c_figure (T : Tx K mg base) : Can P w K mg base 14 "_law_figure" s_figure ["_law_spring_here", "_law_frame_here", "_law_deep", "_law_room"] sp_figure := (c_figureK T 3).lift (by omega)
theorem c_odd (T : Tx K mg base) : Can P w K mg base 3 "_law_odd" s_odd ["_law_spring_here"] sp_odd :=
  can_of T.h_odd sc_odd (fun ds s Q h => by
    first
    | (obtain ⟨_, rfl, _⟩ := h; rfl)
    | (obtain ⟨_, _, rfl, _⟩ := h; rfl)
    | (obtain ⟨_, _, _, rfl, _⟩ := h; rfl)
    | (obtain ⟨_, _, _, _, rfl, _⟩ := h; rfl)
    | (obtain ⟨_, _, _, _, _, rfl, _⟩ := h; rfl)
    | (obtain ⟨_, _, _, _, _, _, rfl, _⟩ := h; rfl)
    | (obtain ⟨_, _, _, _, _, _, _, rfl, _⟩ := h; rfl)
    | (obtain ⟨_, _, _, _, _, _, _, _, rfl, _⟩ := h; rfl)
    | (obtain ⟨_, _, _, _, _, _, _, _, _, rfl, _⟩ := h; rfl)
    | (unfold sp_odd at h; split at h <;> first | rfl | exact h.elim)) (fun _ _ _ _ _ _ us hl => match us, hl with | [_], _ => rfl) (fun f cd A outer s H E hG hr => t_odd (k := 2) (by omega) T (c_one_of T) f cd A outer s H E hG hr) r_odd
theorem c_bentK (T : Tx K mg base) : ∀ n : Nat, Can P w K mg base (4 + n) "_law_bent" s_bent ["_law_spring_here", "_law_thing"] (sp_bentK n)
  | 0 => can_of T.h_bent sc_bent (fun ds s Q h => by
    first
    | (obtain ⟨_, rfl, _⟩ := h; rfl)
    | (obtain ⟨_, _, rfl, _⟩ := h; rfl)
    | (obtain ⟨_, _, _, rfl, _⟩ := h; rfl)
    | (obtain ⟨_, _, _, _, rfl, _⟩ := h; rfl)
    | (obtain ⟨_, _, _, _, _, rfl, _⟩ := h; rfl)
    | (obtain ⟨_, _, _, _, _, _, rfl, _⟩ := h; rfl)
    | (obtain ⟨_, _, _, _, _, _, _, rfl, _⟩ := h; rfl)
    | (obtain ⟨_, _, _, _, _, _, _, _, rfl, _⟩ := h; rfl)
    | (obtain ⟨_, _, _, _, _, _, _, _, _, rfl, _⟩ := h; rfl)
    | (unfold sp_bentK at h; split at h <;> first | rfl | exact h.elim)) (fun _ _ _ _ _ _ us hl => match us, hl with | [_, _], _ => rfl) (fun f cd A outer s H E hG hr => t_bent (k := 3) (by omega) T (c_draw T) (can_none T.h_bent (fun _ _ _ _ _ _ us hl => match us, hl with | [_, _], _ => rfl)) (c_odd T) f cd A outer s H E hG hr) (r_bent 0 _ (fun m e => by cases e))
  | n + 1 => can_of T.h_bent sc_bent (fun ds s Q h => by
    first
    | (obtain ⟨_, rfl, _⟩ := h; rfl)
    | (obtain ⟨_, _, rfl, _⟩ := h; rfl)
    | (obtain ⟨_, _, _, rfl, _⟩ := h; rfl)
    | (obtain ⟨_, _, _, _, rfl, _⟩ := h; rfl)
    | (obtain ⟨_, _, _, _, _, rfl, _⟩ := h; rfl)
    | (obtain ⟨_, _, _, _, _, _, rfl, _⟩ := h; rfl)
    | (obtain ⟨_, _, _, _, _, _, _, rfl, _⟩ := h; rfl)
    | (obtain ⟨_, _, _, _, _, _, _, _, rfl, _⟩ := h; rfl)
    | (obtain ⟨_, _, _, _, _, _, _, _, _, rfl, _⟩ := h; rfl)
    | (unfold sp_bentK at h; split at h <;> first | rfl | exact h.elim)) (fun _ _ _ _ _ _ us hl => match us, hl with | [_, _], _ => rfl) (fun f cd A outer s H E hG hr => t_bent (k := 4 + n) (by omega) T (c_draw T) (c_bentK T n) (c_odd T) f cd A outer s H E hG hr) (r_bent (n + 1) _ (fun m e ds st Q h => by cases e; exact h))
theorem c_bent (T : Tx K mg base) : Can P w K mg base 30 "_law_bent" s_bent ["_law_spring_here", "_law_thing"] sp_bent := (c_bentK T 12).lift (by omega)
theorem c_l_is_whole (T : Tx K mg base) : Can P w K mg base 1 "_law_is_whole" s_l_is_whole ["_law_thing"] sp_l_is_whole :=
  can_of T.h_l_is_whole sc_l_is_whole (fun ds s Q h => by
    first
    | (obtain ⟨_, rfl, _⟩ := h; rfl)
    | (obtain ⟨_, _, rfl, _⟩ := h; rfl)
    | (obtain ⟨_, _, _, rfl, _⟩ := h; rfl)
    | (obtain ⟨_, _, _, _, rfl, _⟩ := h; rfl)
    | (obtain ⟨_, _, _, _, _, rfl, _⟩ := h; rfl)
    | (obtain ⟨_, _, _, _, _, _, rfl, _⟩ := h; rfl)
    | (obtain ⟨_, _, _, _, _, _, _, rfl, _⟩ := h; rfl)
    | (obtain ⟨_, _, _, _, _, _, _, _, rfl, _⟩ := h; rfl)
    | (obtain ⟨_, _, _, _, _, _, _, _, _, rfl, _⟩ := h; rfl)
    | (unfold sp_l_is_whole at h; unfold sp_is_whole at h; split at h <;> first | rfl | exact h.elim)) (fun _ _ _ _ _ _ us hl => match us, hl with | [_], _ => rfl) (fun f cd A outer s H E hG hr => t_l_is_whole (k := 0) (by omega) T  f cd A outer s H E hG hr) r_l_is_whole
theorem c_is_lot (T : Tx K mg base) : Can P w K mg base 1 "_law_is_lot" s_is_lot ["_law_thing", "_law_low", "_law_high"] sp_is_lot :=
  can_of T.h_is_lot sc_is_lot (fun ds s Q h => by
    first
    | (obtain ⟨_, rfl, _⟩ := h; rfl)
    | (obtain ⟨_, _, rfl, _⟩ := h; rfl)
    | (obtain ⟨_, _, _, rfl, _⟩ := h; rfl)
    | (obtain ⟨_, _, _, _, rfl, _⟩ := h; rfl)
    | (obtain ⟨_, _, _, _, _, rfl, _⟩ := h; rfl)
    | (obtain ⟨_, _, _, _, _, _, rfl, _⟩ := h; rfl)
    | (obtain ⟨_, _, _, _, _, _, _, rfl, _⟩ := h; rfl)
    | (obtain ⟨_, _, _, _, _, _, _, _, rfl, _⟩ := h; rfl)
    | (obtain ⟨_, _, _, _, _, _, _, _, _, rfl, _⟩ := h; rfl)
    | (unfold sp_is_lot at h; unfold sp_is_row at h; split at h <;> first | rfl | exact h.elim)) (fun _ _ _ _ _ _ us hl => match us, hl with | [_, _, _], _ => rfl) (fun f cd A outer s H E hG hr => t_is_lot (k := 0) (by omega) T  f cd A outer s H E hG hr) r_is_lot
theorem c_l_is_fraction (T : Tx K mg base) : Can P w K mg base 2 "_law_is_fraction" s_l_is_fraction ["_law_thing"] sp_l_is_fraction :=
  can_of T.h_l_is_fraction sc_l_is_fraction (fun ds s Q h => by
    first
    | (obtain ⟨_, rfl, _⟩ := h; rfl)
    | (obtain ⟨_, _, rfl, _⟩ := h; rfl)
    | (obtain ⟨_, _, _, rfl, _⟩ := h; rfl)
    | (obtain ⟨_, _, _, _, rfl, _⟩ := h; rfl)
    | (obtain ⟨_, _, _, _, _, rfl, _⟩ := h; rfl)
    | (obtain ⟨_, _, _, _, _, _, rfl, _⟩ := h; rfl)
    | (obtain ⟨_, _, _, _, _, _, _, rfl, _⟩ := h; rfl)
    | (obtain ⟨_, _, _, _, _, _, _, _, rfl, _⟩ := h; rfl)
    | (obtain ⟨_, _, _, _, _, _, _, _, _, rfl, _⟩ := h; rfl)
    | (unfold sp_l_is_fraction at h; unfold sp_is_fraction at h; split at h <;> first | rfl | exact h.elim)) (fun _ _ _ _ _ _ us hl => match us, hl with | [_], _ => rfl) (fun f cd A outer s H E hG hr => t_l_is_fraction (k := 1) (by omega) T (c_is_lot T) (c_l_is_whole T) (c_divisor T) f cd A outer s H E hG hr) r_l_is_fraction
theorem c_is_told (T : Tx K mg base) : Can P w K mg base 3 "_law_is_told" s_is_told ["_law_thing"] sp_is_told :=
  can_of T.h_is_told sc_is_told (fun ds s Q h => by
    first
    | (obtain ⟨_, rfl, _⟩ := h; rfl)
    | (obtain ⟨_, _, rfl, _⟩ := h; rfl)
    | (obtain ⟨_, _, _, rfl, _⟩ := h; rfl)
    | (obtain ⟨_, _, _, _, rfl, _⟩ := h; rfl)
    | (obtain ⟨_, _, _, _, _, rfl, _⟩ := h; rfl)
    | (obtain ⟨_, _, _, _, _, _, rfl, _⟩ := h; rfl)
    | (obtain ⟨_, _, _, _, _, _, _, rfl, _⟩ := h; rfl)
    | (obtain ⟨_, _, _, _, _, _, _, _, rfl, _⟩ := h; rfl)
    | (obtain ⟨_, _, _, _, _, _, _, _, _, rfl, _⟩ := h; rfl)
    | (unfold sp_is_told at h; unfold sp_is_place at h; split at h <;> first | rfl | exact h.elim)) (fun _ _ _ _ _ _ us hl => match us, hl with | [_], _ => rfl) (fun f cd A outer s H E hG hr => t_is_told (k := 2) (by omega) T (c_is_lot T) (c_l_is_fraction T) f cd A outer s H E hG hr) r_is_told
theorem c_shapeK (T : Tx K mg base) : ∀ n : Nat, Can P w K mg base (4 + n) "_law_shape" s_shape ["_law_thing"] (sp_shapeK n)
  | 0 => can_ofS T.h_shape sc_shape (fun ds s Q h => by
    first
    | (obtain ⟨_, rfl, _⟩ := h; rfl)
    | (obtain ⟨_, _, rfl, _⟩ := h; rfl)
    | (obtain ⟨_, _, _, rfl, _⟩ := h; rfl)
    | (obtain ⟨_, _, _, _, rfl, _⟩ := h; rfl)
    | (obtain ⟨_, _, _, _, _, rfl, _⟩ := h; rfl)
    | (obtain ⟨_, _, _, _, _, _, rfl, _⟩ := h; rfl)
    | (obtain ⟨_, _, _, _, _, _, _, rfl, _⟩ := h; rfl)
    | (obtain ⟨_, _, _, _, _, _, _, _, rfl, _⟩ := h; rfl)
    | (obtain ⟨_, _, _, _, _, _, _, _, _, rfl, _⟩ := h; rfl)
    | (unfold sp_shapeK at h; split at h <;> first | rfl | exact h.elim)) (fun _ _ _ _ _ _ us hl => match us, hl with | [_], _ => rfl) (fun f cd A outer s H E hG hr => t_shape (k := 3) (by omega) T (c_is_lot T) (can_none T.h_shape (fun _ _ _ _ _ _ us hl => match us, hl with | [_], _ => rfl)) (c_is_told T) (c_pairs T) f cd A outer s H E hG hr) (r_shape 0 _ (fun m e => by cases e))
  | n + 1 => can_ofS T.h_shape sc_shape (fun ds s Q h => by
    first
    | (obtain ⟨_, rfl, _⟩ := h; rfl)
    | (obtain ⟨_, _, rfl, _⟩ := h; rfl)
    | (obtain ⟨_, _, _, rfl, _⟩ := h; rfl)
    | (obtain ⟨_, _, _, _, rfl, _⟩ := h; rfl)
    | (obtain ⟨_, _, _, _, _, rfl, _⟩ := h; rfl)
    | (obtain ⟨_, _, _, _, _, _, rfl, _⟩ := h; rfl)
    | (obtain ⟨_, _, _, _, _, _, _, rfl, _⟩ := h; rfl)
    | (obtain ⟨_, _, _, _, _, _, _, _, rfl, _⟩ := h; rfl)
    | (obtain ⟨_, _, _, _, _, _, _, _, _, rfl, _⟩ := h; rfl)
    | (unfold sp_shapeK at h; split at h <;> first | rfl | exact h.elim)) (fun _ _ _ _ _ _ us hl => match us, hl with | [_], _ => rfl) (fun f cd A outer s H E hG hr => t_shape (k := 4 + n) (by omega) T (c_is_lot T) (c_shapeK T n) (c_is_told T) (c_pairs T) f cd A outer s H E hG hr) (r_shape (n + 1) _ (fun m e ds st Q h => by cases e; exact h))
theorem c_shape (T : Tx K mg base) : Can P w K mg base 40 "_law_shape" s_shape ["_law_thing"] sp_shape := (c_shapeK T 20).lift (by omega)
theorem c_wrapped (T : Tx K mg base) : Can P w K mg base 6 "_law_wrapped" s_wrapped ["_law_spring_here", "_law_frame_here"] sp_wrapped :=
  can_ofS T.h_wrapped sc_wrapped (fun ds s Q h => by
    first
    | (obtain ⟨_, rfl, _⟩ := h; rfl)
    | (obtain ⟨_, _, rfl, _⟩ := h; rfl)
    | (obtain ⟨_, _, _, rfl, _⟩ := h; rfl)
    | (obtain ⟨_, _, _, _, rfl, _⟩ := h; rfl)
    | (obtain ⟨_, _, _, _, _, rfl, _⟩ := h; rfl)
    | (obtain ⟨_, _, _, _, _, _, rfl, _⟩ := h; rfl)
    | (obtain ⟨_, _, _, _, _, _, _, rfl, _⟩ := h; rfl)
    | (obtain ⟨_, _, _, _, _, _, _, _, rfl, _⟩ := h; rfl)
    | (obtain ⟨_, _, _, _, _, _, _, _, _, rfl, _⟩ := h; rfl)
    | (unfold sp_wrapped at h; split at h <;> first | rfl | exact h.elim)) (fun _ _ _ _ _ _ us hl => match us, hl with | [_, _], _ => rfl) (fun f cd A outer s H E hG hr => t_wrapped (k := 5) (by omega) T (c_leaf T) (c_draw T) (c_one_of T) f cd A outer s H E hG hr) r_wrapped
theorem c_wide (T : Tx K mg base) : Can P w K mg base 5 "_law_wide" s_wide ["_law_spring_here", "_law_frame_here"] sp_wide :=
  can_of T.h_wide sc_wide (fun ds s Q h => by
    first
    | (obtain ⟨_, rfl, _⟩ := h; rfl)
    | (obtain ⟨_, _, rfl, _⟩ := h; rfl)
    | (obtain ⟨_, _, _, rfl, _⟩ := h; rfl)
    | (obtain ⟨_, _, _, _, rfl, _⟩ := h; rfl)
    | (obtain ⟨_, _, _, _, _, rfl, _⟩ := h; rfl)
    | (obtain ⟨_, _, _, _, _, _, rfl, _⟩ := h; rfl)
    | (obtain ⟨_, _, _, _, _, _, _, rfl, _⟩ := h; rfl)
    | (obtain ⟨_, _, _, _, _, _, _, _, rfl, _⟩ := h; rfl)
    | (obtain ⟨_, _, _, _, _, _, _, _, _, rfl, _⟩ := h; rfl)
    | (unfold sp_wide at h; split at h <;> first | rfl | exact h.elim)) (fun _ _ _ _ _ _ us hl => match us, hl with | [_, _], _ => rfl) (fun f cd A outer s H E hG hr => t_wide (k := 4) (by omega) T (c_row T) (c_draw T) (c_one_of T) f cd A outer s H E hG hr) r_wide
theorem c_line (T : Tx K mg base) : Can P w K mg base 5 "_law_line" s_line ["_law_spring_here", "_law_frame_here"] sp_line :=
  can_of T.h_line sc_line (fun ds s Q h => by
    first
    | (obtain ⟨_, rfl, _⟩ := h; rfl)
    | (obtain ⟨_, _, rfl, _⟩ := h; rfl)
    | (obtain ⟨_, _, _, rfl, _⟩ := h; rfl)
    | (obtain ⟨_, _, _, _, rfl, _⟩ := h; rfl)
    | (obtain ⟨_, _, _, _, _, rfl, _⟩ := h; rfl)
    | (obtain ⟨_, _, _, _, _, _, rfl, _⟩ := h; rfl)
    | (obtain ⟨_, _, _, _, _, _, _, rfl, _⟩ := h; rfl)
    | (obtain ⟨_, _, _, _, _, _, _, _, rfl, _⟩ := h; rfl)
    | (obtain ⟨_, _, _, _, _, _, _, _, _, rfl, _⟩ := h; rfl)
    | (unfold sp_line at h; split at h <;> first | rfl | exact h.elim)) (fun _ _ _ _ _ _ us hl => match us, hl with | [_, _], _ => rfl) (fun f cd A outer s H E hG hr => t_line (k := 4) (by omega) T (c_one_of T) (c_row T) (c_draw T) f cd A outer s H E hG hr) r_line
theorem c_is_due (T : Tx K mg base) : Can P w K mg base 41 "_law_is_due" s_is_due ["_law_thing"] sp_is_due :=
  can_of T.h_is_due sc_is_due (fun ds s Q h => by
    first
    | (obtain ⟨_, rfl, _⟩ := h; rfl)
    | (obtain ⟨_, _, rfl, _⟩ := h; rfl)
    | (obtain ⟨_, _, _, rfl, _⟩ := h; rfl)
    | (obtain ⟨_, _, _, _, rfl, _⟩ := h; rfl)
    | (obtain ⟨_, _, _, _, _, rfl, _⟩ := h; rfl)
    | (obtain ⟨_, _, _, _, _, _, rfl, _⟩ := h; rfl)
    | (obtain ⟨_, _, _, _, _, _, _, rfl, _⟩ := h; rfl)
    | (obtain ⟨_, _, _, _, _, _, _, _, rfl, _⟩ := h; rfl)
    | (obtain ⟨_, _, _, _, _, _, _, _, _, rfl, _⟩ := h; rfl)
    | (unfold sp_is_due at h; split at h <;> first | rfl | exact h.elim)) (fun _ _ _ _ _ _ us hl => match us, hl with | [_], _ => rfl) (fun f cd A outer s H E hG hr => t_is_due (k := 40) (by omega) T (c_shape T) f cd A outer s H E hG hr) r_is_due
theorem c_right (T : Tx K mg base) : Can P w K mg base 42 "_law_right" s_right ["_law_spring_here"] sp_right :=
  can_ofS T.h_right sc_right (fun ds s Q h => by
    first
    | (obtain ⟨_, rfl, _⟩ := h; rfl)
    | (obtain ⟨_, _, rfl, _⟩ := h; rfl)
    | (obtain ⟨_, _, _, rfl, _⟩ := h; rfl)
    | (obtain ⟨_, _, _, _, rfl, _⟩ := h; rfl)
    | (obtain ⟨_, _, _, _, _, rfl, _⟩ := h; rfl)
    | (obtain ⟨_, _, _, _, _, _, rfl, _⟩ := h; rfl)
    | (obtain ⟨_, _, _, _, _, _, _, rfl, _⟩ := h; rfl)
    | (obtain ⟨_, _, _, _, _, _, _, _, rfl, _⟩ := h; rfl)
    | (obtain ⟨_, _, _, _, _, _, _, _, _, rfl, _⟩ := h; rfl)
    | (unfold sp_right at h; split at h <;> first | rfl | exact h.elim)) (fun _ _ _ _ _ _ us hl => match us, hl with | [_], _ => rfl) (fun f cd A outer s H E hG hr => t_right (k := 41) (by omega) T (c_frame T) (c_line T) (c_wide T) (c_wrapped T) (c_figure T) (c_bent T) (c_odd T) (c_one_of T) (c_is_due T) (c_is_figure T) f cd A outer s H E hG hr) r_right
theorem c_law (T : Tx K mg base) : Can P w K mg base 43 "law" s_law ["_law_script"] sp_law :=
  can_of T.h_law sc_law (fun ds s Q h => by
    first
    | (obtain ⟨_, rfl, _⟩ := h; rfl)
    | (obtain ⟨_, _, rfl, _⟩ := h; rfl)
    | (obtain ⟨_, _, _, rfl, _⟩ := h; rfl)
    | (obtain ⟨_, _, _, _, rfl, _⟩ := h; rfl)
    | (obtain ⟨_, _, _, _, _, rfl, _⟩ := h; rfl)
    | (obtain ⟨_, _, _, _, _, _, rfl, _⟩ := h; rfl)
    | (obtain ⟨_, _, _, _, _, _, _, rfl, _⟩ := h; rfl)
    | (obtain ⟨_, _, _, _, _, _, _, _, rfl, _⟩ := h; rfl)
    | (obtain ⟨_, _, _, _, _, _, _, _, _, rfl, _⟩ := h; rfl)
    | (unfold sp_law at h; split at h <;> first | rfl | exact h.elim)) (fun _ _ _ _ _ _ us hl => match us, hl with | [_], _ => rfl) (fun f cd A outer s H E hG hr => t_law (k := 42) (by omega) T (c_right T) (c_spring T) f cd A outer s H E hG hr) r_law
end
end K12
namespace K12
open PySem PySem.Spec PyProof.Rows L2 DL LB
instance tabsI : Tabs := ⟨[89]⟩
theorem has_mk {K : PySem.W.Frag} {h : Heap} {mg : Str → Option Value} {x : Str} {st : Stmt} {f : Addr} {od an : Option Addr} {sl : Array (Option Value)} {oc kV dc pm cd ct : Value} (X : K.In h) (G : h.Ns mainGlobals mg)
    (a : PySem.W.nsIn K mainGlobals x = some (some (.ref f))) (l : K.lookup f = some ⟨oc, od, .func (PySem.W.fnOf x x (defArgs st) (defBody st) (defScope st) .none kV dc pm an cd ct), sl⟩) (c : PySem.W.codeIn K cd x = true) (k : PySem.W.keepIn K (.ref f) = true) : Has K mg x st :=
  ⟨f, _, PySem.W.mg_of X G a, fun_mk l c k⟩
theorem hasg_mk {K : PySem.W.Frag} {h : Heap} {mg : Str → Option Value} {x : Str} {st : Stmt} {f : Addr} {od an : Option Addr} {sl : Array (Option Value)} {oc kV dc pm cd ct : Value} (X : K.In h) (G : h.Ns mainGlobals mg)
    (a : PySem.W.nsIn K mainGlobals x = some (some (.ref f))) (l : K.lookup f = some ⟨oc, od, .func (PySem.W.fnOf x x (defArgs st) (defBody st) (defScope st) .none kV dc pm an cd ct), sl⟩) (c : PySem.W.codeIn K cd x = true) (k : PySem.W.keepIn K (.ref f) = true) (e : cd = .ref 93) :
    ∃ f fd, mg x = some (.ref f) ∧ Fun K x x st f fd ∧ fd.code = .ref 93 := ⟨f, _, PySem.W.mg_of X G a, fun_mk l c k, e⟩
theorem law_mk {P : Program} {w : World} {K : PySem.W.Frag} {h : Heap} {mg : Str → Option Value} {fa f : Addr} {od an : Option Addr} {sl : Array (Option Value)} {oc kV dc pm cd ct : Value} (X : K.In h) (G : h.Ns mainGlobals mg) (hfa : mg "law" = some (.ref fa)) (T : ∀ base : Heap, K.In base → base.Ns mainGlobals mg → GxR.TabB base mg 93 89 → Tx K mg base)
    (a : PySem.W.nsIn K mainGlobals "law" = some (some (.ref f))) (l : K.lookup f = some ⟨oc, od, .func (PySem.W.fnOf "law" "law" (defArgs s_law) (defBody s_law) (defScope s_law) .none kV dc pm an cd ct), sl⟩) (c : PySem.W.codeIn K cd "law" = true) (k : PySem.W.keepIn K (.ref f) = true) :
    ∃ fd : FuncData, (∀ (s : Shared) (u : Value), BindsTo s fd ⟨[u], []⟩ [("_law_script", u)]) ∧ ∀ base : Heap, K.In base → base.Ns mainGlobals mg → (∀ p ∈ [((93 : Addr), (89 : Addr))], GxR.TabB base mg p.1 p.2) → FnD P w K mg base 43 fa fd ["_law_script"] sp_law := by
  have e := hfa.symm.trans (PySem.W.mg_of X G a)
  cases e
  refine ⟨PySem.W.fnOf "law" "law" (defArgs s_law) (defBody s_law) (defScope s_law) .none kV dc pm an cd ct, fun s v => .of_eq rfl, fun base bX bG tb => ?_⟩
  have T := T base bX bG (tb (93, 89) (by simp))
  exact fnD_ok (fun_mk l c k) sc_law (fun ds s Q h => by
    unfold sp_law at h
    split at h <;> first | rfl | exact h.elim) (fun cd A outer s H E hG hr => t_law (k := 42) (by omega) T (c_right T) (c_spring T) fa cd A outer s H E hG hr) r_law
end K12
open PySem PySem.W PyProof.Rows
open_top K12.top for PySem.Challenge.rw_bentalike_k12_figures_of_anything
set_option maxHeartbeats 0 in
theorem PySem.Challenge.cw_bentalike_k12_figures_of_anything_holds : PySem.Challenge.rw_bentalike_k12_figures_of_anything.Holds := by
  w_on; o_law; o_head (kmHook K12.top.heap_39 [2, 3, 43, 45, 46, 48, 49, 50, 52, 53, 55, 56, 57, 59, 60, 62, 63, 64, 66, 67, 69, 70, 71, 72, 73, 74, 76, 77, 79, 80, 81, 83, 84, 86, 87, 88, 90, 91, 93, 94, 95, 97, 98, 100, 101, 102, 104, 105, 107, 108, 109, 112, 113, 114, 116, 117, 119, 120, 121, 123, 124, 126, 127, 128, 130, 131, 133, 134, 135, 137, 138, 140, 141, 142, 144, 145, 147, 148, 149, 151, 152, 154, 155, 156, 158, 159, 161, 162, 163, 165, 166, 168, 169, 170, 172, 173, 175, 176, 177, 180, 181, 182, 184, 185, 187, 188, 189, 191, 192, 194, 195, 196, 198, 199, 201, 202, 203, 205, 206, 208, 209, 210, 212, 213, 215, 216, 217, 219, 220, 222, 223, 224, 226, 227, 229, 230, 231, 233, 234, 236, 237, 238, 241, 242, 243, 246, 247, 248, 251, 252, 253, 255, 256, 258, 259, 260, 262, 263, 265, 266, 267, 269, 270, 272, 273, 274, 276, 277, 279, 280, 281, 284, 285, 286, 289, 290] (fun _ => by kernel_rfl) [89]); (case hw => w_witness2)
  k_fill
  refine DL.walkG (l := PySem.Challenge.rw_bentalike_k12_figures_of_anything) (n := 63) (k := 43) (x := "_law_script") (sp := K12.sp_law) (cs := [(93, 89)]) rfl rfl (by decide) rfl ⟨rfl, by decide, by decide⟩ (fun w h Y => PySem.W.km_in_of Y) ?T ?F (fun ns hl => ⟨hl, fun _ => rfl⟩)
  case T =>
    intro w h Y KX
    refine ⟨fun p hp => ?_, fun p hp => ?_, fun p hp => ?_⟩
    · rw [List.mem_singleton.mp hp]
      exact PySem.W.km_tabs_of Y 89 (by simp)
    · rw [List.mem_singleton.mp hp]
      kernel_rfl
    · rw [List.mem_singleton.mp hp]
      exact PySem.W.codeHd_of_K KX (by kernel_rfl)
  case F =>
    intro w mg fa h KX G hmg
    have n_abs : mg "abs" = none := PySem.W.mg_none_of KX G (by k_is)
    have n_all : mg "all" = none := PySem.W.mg_none_of KX G (by k_is)
    have n_bool : mg "bool" = none := PySem.W.mg_none_of KX G (by k_is)
    have n_divmod : mg "divmod" = none := PySem.W.mg_none_of KX G (by k_is)
    have n_int : mg "int" = none := PySem.W.mg_none_of KX G (by k_is)
    have n_isinstance : mg "isinstance" = none := PySem.W.mg_none_of KX G (by k_is)
    have n_len : mg "len" = none := PySem.W.mg_none_of KX G (by k_is)
    have n_list : mg "list" = none := PySem.W.mg_none_of KX G (by k_is)
    have n_max : mg "max" = none := PySem.W.mg_none_of KX G (by k_is)
    have n_min : mg "min" = none := PySem.W.mg_none_of KX G (by k_is)
    have n_range : mg "range" = none := PySem.W.mg_none_of KX G (by k_is)
    have n_repr : mg "repr" = none := PySem.W.mg_none_of KX G (by k_is)
    have n_str : mg "str" = none := PySem.W.mg_none_of KX G (by k_is)
    have n_sum : mg "sum" = none := PySem.W.mg_none_of KX G (by k_is)
    have n_tuple : mg "tuple" = none := PySem.W.mg_none_of KX G (by k_is)
    have n_zip : mg "zip" = none := PySem.W.mg_none_of KX G (by k_is)
    have m_gcd : mg "gcd" = some (.builtin "math.gcd") := PySem.W.mg_of KX G (by k_is)
    have g_MOST_ON_LINE : ∃ t, mg "MOST_ON_LINE" = some (.int 12 t) := ⟨_, PySem.W.mg_of KX G (by k_is)⟩
    have g_MOST_SEGMENTS : ∃ t, mg "MOST_SEGMENTS" = some (.int 24 t) := ⟨_, PySem.W.mg_of KX G (by k_is)⟩
    have g_NEARBY := by
      refine' DL.gtup_mk (x := "NEARBY") (ts := ["closure", "inner", "rim"]) KX G ?ga ?gl ?gc ?gd ?gs ?gv
      (case ga => k_is); (case gl => k_is); (case gc => rfl); (case gd => rfl); (case gs => decide); (case gv => repeat (first | exact .nil | refine .cons ⟨_, rfl⟩ ?_))
    have g_PAIRED := by
      refine' DL.gtup_mk (x := "PAIRED") (ts := ["both", "either", "less"]) KX G ?ga ?gl ?gc ?gd ?gs ?gv
      (case ga => k_is); (case gl => k_is); (case gc => rfl); (case gd => rfl); (case gs => decide); (case gv => repeat (first | exact .nil | refine .cons ⟨_, rfl⟩ ?_))
    have h_is_whole := by
      refine' K12.has_mk (x := "is_whole") (st := K12.s_is_whole) KX G ?a ?l ?c ?k
      (case a => k_is); (case l => k_is); (case c => k_is); (case k => k_is)
    have h_is_row := by
      refine' K12.has_mk (x := "is_row") (st := K12.s_is_row) KX G ?a ?l ?c ?k
      (case a => k_is); (case l => k_is); (case c => k_is); (case k => k_is)
    have h_is_fraction := by
      refine' K12.has_mk (x := "is_fraction") (st := K12.s_is_fraction) KX G ?a ?l ?c ?k
      (case a => k_is); (case l => k_is); (case c => k_is); (case k => k_is)
    have h_is_place := by
      refine' K12.has_mk (x := "is_place") (st := K12.s_is_place) KX G ?a ?l ?c ?k
      (case a => k_is); (case l => k_is); (case c => k_is); (case k => k_is)
    have h_is_line := by
      refine' K12.hasg_mk (x := "is_line") (st := K12.s_is_line) KX G ?a ?l ?c ?k ?e
      (case a => k_is); (case l => k_is); (case c => k_is); (case k => k_is); (case e => rfl)
    have h_is_basic := by
      refine' K12.has_mk (x := "is_basic") (st := K12.s_is_basic) KX G ?a ?l ?c ?k
      (case a => k_is); (case l => k_is); (case c => k_is); (case k => k_is)
    have h_is_figure_form := by
      refine' DL.hasD_mk (x := "is_figure_form") (st := K12.s_is_figure_form) (dvs := [L2.V.int 6]) KX G ?a ?l ?c ?k ?hd ?lT ?oT ?vT
      (case a => k_is); (case l => k_is); (case c => k_is); (case k => k_is); (case hd => simp); (case lT => k_is); (case oT => rfl); (case vT => repeat (first | exact .nil | refine .cons ⟨_, rfl⟩ ?_))
    have h_basics_of := by
      refine' K12.has_mk (x := "basics_of") (st := K12.s_basics_of) KX G ?a ?l ?c ?k
      (case a => k_is); (case l => k_is); (case c => k_is); (case k => k_is)
    have h_lines_of_basic := by
      refine' K12.has_mk (x := "lines_of_basic") (st := K12.s_lines_of_basic) KX G ?a ?l ?c ?k
      (case a => k_is); (case l => k_is); (case c => k_is); (case k => k_is)
    have h_lines_in := by
      refine' K12.has_mk (x := "lines_in") (st := K12.s_lines_in) KX G ?a ?l ?c ?k
      (case a => k_is); (case l => k_is); (case c => k_is); (case k => k_is)
    have h_is_figure := by
      refine' K12.has_mk (x := "is_figure") (st := K12.s_is_figure) KX G ?a ?l ?c ?k
      (case a => k_is); (case l => k_is); (case c => k_is); (case k => k_is)
    have h_spring := by
      refine' K12.has_mk (x := "_law_spring") (st := K12.s_spring) KX G ?a ?l ?c ?k
      (case a => k_is); (case l => k_is); (case c => k_is); (case k => k_is)
    have h_draw := by
      refine' K12.has_mk (x := "_law_draw") (st := K12.s_draw) KX G ?a ?l ?c ?k
      (case a => k_is); (case l => k_is); (case c => k_is); (case k => k_is)
    have h_one_of := by
      refine' K12.has_mk (x := "_law_one_of") (st := K12.s_one_of) KX G ?a ?l ?c ?k
      (case a => k_is); (case l => k_is); (case c => k_is); (case k => k_is)
    have h_divisor := by
      refine' K12.has_mk (x := "_law_divisor") (st := K12.s_divisor) KX G ?a ?l ?c ?k
      (case a => k_is); (case l => k_is); (case c => k_is); (case k => k_is)
    have h_part := by
      refine' K12.has_mk (x := "_law_part") (st := K12.s_part) KX G ?a ?l ?c ?k
      (case a => k_is); (case l => k_is); (case c => k_is); (case k => k_is)
    have h_frame := by
      refine' K12.has_mk (x := "_law_frame") (st := K12.s_frame) KX G ?a ?l ?c ?k
      (case a => k_is); (case l => k_is); (case c => k_is); (case k => k_is)
    have h_grid := by
      refine' K12.has_mk (x := "_law_grid") (st := K12.s_grid) KX G ?a ?l ?c ?k
      (case a => k_is); (case l => k_is); (case c => k_is); (case k => k_is)
    have h_dot := by
      refine' K12.has_mk (x := "_law_dot") (st := K12.s_dot) KX G ?a ?l ?c ?k
      (case a => k_is); (case l => k_is); (case c => k_is); (case k => k_is)
    have h_row := by
      refine' K12.has_mk (x := "_law_row") (st := K12.s_row) KX G ?a ?l ?c ?k
      (case a => k_is); (case l => k_is); (case c => k_is); (case k => k_is)
    have h_box := by
      refine' K12.has_mk (x := "_law_box") (st := K12.s_box) KX G ?a ?l ?c ?k
      (case a => k_is); (case l => k_is); (case c => k_is); (case k => k_is)
    have h_pairs := by
      refine' K12.has_mk (x := "_law_pairs") (st := K12.s_pairs) KX G ?a ?l ?c ?k
      (case a => k_is); (case l => k_is); (case c => k_is); (case k => k_is)
    have h_leaf := by
      refine' K12.has_mk (x := "_law_leaf") (st := K12.s_leaf) KX G ?a ?l ?c ?k
      (case a => k_is); (case l => k_is); (case c => k_is); (case k => k_is)
    have h_figure := by
      refine' K12.has_mk (x := "_law_figure") (st := K12.s_figure) KX G ?a ?l ?c ?k
      (case a => k_is); (case l => k_is); (case c => k_is); (case k => k_is)
    have h_odd := by
      refine' K12.has_mk (x := "_law_odd") (st := K12.s_odd) KX G ?a ?l ?c ?k
      (case a => k_is); (case l => k_is); (case c => k_is); (case k => k_is)
    have h_bent := by
      refine' K12.has_mk (x := "_law_bent") (st := K12.s_bent) KX G ?a ?l ?c ?k
      (case a => k_is); (case l => k_is); (case c => k_is); (case k => k_is)
    have h_l_is_whole := by
      refine' K12.has_mk (x := "_law_is_whole") (st := K12.s_l_is_whole) KX G ?a ?l ?c ?k
      (case a => k_is); (case l => k_is); (case c => k_is); (case k => k_is)
    have h_is_lot := by
      refine' K12.has_mk (x := "_law_is_lot") (st := K12.s_is_lot) KX G ?a ?l ?c ?k
      (case a => k_is); (case l => k_is); (case c => k_is); (case k => k_is)
    have h_l_is_fraction := by
      refine' K12.has_mk (x := "_law_is_fraction") (st := K12.s_l_is_fraction) KX G ?a ?l ?c ?k
      (case a => k_is); (case l => k_is); (case c => k_is); (case k => k_is)
    have h_is_told := by
      refine' K12.has_mk (x := "_law_is_told") (st := K12.s_is_told) KX G ?a ?l ?c ?k
      (case a => k_is); (case l => k_is); (case c => k_is); (case k => k_is)
    have h_shape := by
      refine' K12.has_mk (x := "_law_shape") (st := K12.s_shape) KX G ?a ?l ?c ?k
      (case a => k_is); (case l => k_is); (case c => k_is); (case k => k_is)
    have h_wrapped := by
      refine' K12.has_mk (x := "_law_wrapped") (st := K12.s_wrapped) KX G ?a ?l ?c ?k
      (case a => k_is); (case l => k_is); (case c => k_is); (case k => k_is)
    have h_wide := by
      refine' K12.has_mk (x := "_law_wide") (st := K12.s_wide) KX G ?a ?l ?c ?k
      (case a => k_is); (case l => k_is); (case c => k_is); (case k => k_is)
    have h_line := by
      refine' K12.has_mk (x := "_law_line") (st := K12.s_line) KX G ?a ?l ?c ?k
      (case a => k_is); (case l => k_is); (case c => k_is); (case k => k_is)
    have h_is_due := by
      refine' K12.has_mk (x := "_law_is_due") (st := K12.s_is_due) KX G ?a ?l ?c ?k
      (case a => k_is); (case l => k_is); (case c => k_is); (case k => k_is)
    have h_right := by
      refine' K12.has_mk (x := "_law_right") (st := K12.s_right) KX G ?a ?l ?c ?k
      (case a => k_is); (case l => k_is); (case c => k_is); (case k => k_is)
    have h_law := by
      refine' K12.has_mk (x := "law") (st := K12.s_law) KX G ?a ?l ?c ?k
      (case a => k_is); (case l => k_is); (case c => k_is); (case k => k_is)
    refine' K12.law_mk KX G hmg (fun base bX bG TB => ⟨n_abs, n_all, n_bool, n_divmod, n_int, n_isinstance, n_len, n_list, n_max, n_min, n_range, n_repr, n_str, n_sum, n_tuple, n_zip, m_gcd, g_MOST_ON_LINE, g_MOST_SEGMENTS, g_NEARBY, g_PAIRED, h_is_whole, h_is_row, h_is_fraction, h_is_place, ⟨let ⟨f, fd, e1, e2, e3⟩ := h_is_line; ⟨f, fd, 93, 89, e1, e2, e3, List.mem_singleton.mpr rfl, TB⟩⟩, h_is_basic, h_is_figure_form, h_basics_of, h_lines_of_basic, h_lines_in, h_is_figure, h_spring, h_draw, h_one_of, h_divisor, h_part, h_frame, h_grid, h_dot, h_row, h_box, h_pairs, h_leaf, h_figure, h_odd, h_bent, h_l_is_whole, h_is_lot, h_l_is_fraction, h_is_told, h_shape, h_wrapped, h_wide, h_line, h_is_due, h_right, h_law⟩) ?a ?l ?c ?k
    (case a => k_is); (case l => k_is); (case c => k_is); (case k => k_is)
