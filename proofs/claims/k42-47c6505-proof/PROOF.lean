import PyProof.Rows.All
import HandS.ForExc
import HandS.ForMost
import HandS.IsInst
import HandS.Gcd
import HandS.Wide
import HandS.WideBits
import HandS.TupAny
import HandS.Style
import PyProof.ReprRoads
import KE.KMathGC
import HandS.Deep
import HandS.SortInts
import KE.GoesEnum
import KE.SortData
import HandS.Defaults
import PySem.Challenge.RW_bentalike_k42_whole_picks_of_anything
set_option Elab.async false
set_option linter.all false
set_option maxRecDepth 100000
set_option maxHeartbeats 4000000
namespace DL
open PySem PySem.Spec PyProof.Rows L2
/-- what a name may hold: a piece of data, a list that may still change, the script -/
inductive D where
  | d (x : PyData)
  | own (a : Addr)
  | scr (ns : List Int)
abbrev Sto := Addr → Option (List D)
def put (st : Sto) (a : Addr) (xs : List D) : Sto := fun b => if b = a then some xs else st b
theorem put_same {st : Sto} {a : Addr} {xs : List D} : put st a xs a = some xs := if_pos rfl
theorem put_ne {st : Sto} {a b : Addr} {xs : List D} (h : b ≠ a) : put st a xs b = st b := if_neg h
mutual
inductive Dv (K : PySem.W.Frag) (st : Sto) (H : Hp) : V → PyData → Prop
  | non : Dv K st H .non .none
  | bl (b : Bool) : Dv K st H (.bl b) (.bool b)
  | int (i : Int) : Dv K st H (.int i) (.int i)
  | str (x : Str) : Dv K st H (.str x) (.str x)
  | lst {a : Addr} {xs : List V} {ds : List PyData} (h : H a = some (.lst xs)) (f : st a = none) (r : Dvs K st H xs ds) : Dv K st H (.ref a) (.list ds)
  | tup {a : Addr} {xs : List V} {ds : List PyData} (h : SqT K H a xs) (r : Dvs K st H xs ds) : Dv K st H (.ref a) (.tuple ds)
  | dic {a : Addr} {kvs : List (Key × V)} {ps : List (PyData × PyData)} (h : H a = some (.dK kvs)) (f : st a = none)
      (r : Dvs K st H (kvs.map fun p => kV p.1) (ps.map (·.1))) (q : Dvs K st H (kvs.map (·.2)) (ps.map (·.2))) : Dv K st H (.ref a) (.dict ps)
inductive Dvs (K : PySem.W.Frag) (st : Sto) (H : Hp) : List V → List PyData → Prop
  | nil : Dvs K st H [] []
  | cons {v : V} {vs : List V} {x : PyData} {xs : List PyData} (h : Dv K st H v x) (t : Dvs K st H vs xs) : Dvs K st H (v :: vs) (x :: xs)
end
inductive DvD (K : PySem.W.Frag) (st : Sto) (H : Hp) : V → D → Prop
  | d {v : V} {x : PyData} (h : Dv K st H v x) : DvD K st H v (.d x)
  | own (a : Addr) : DvD K st H (.ref a) (.own a)
  | scr {a : Addr} {ns : List Int} (h : SqL K H a (ns.map V.int)) (f : (∃ o, H a = some (.frz o (.lst (ns.map V.int)))) ∨ SqL K (fun _ => none) a (ns.map V.int)) : DvD K st H (.ref a) (.scr ns)
abbrev DvsD (K : PySem.W.Frag) (st : Sto) (H : Hp) : List V → List D → Prop := Paired (DvD K st H)
/-- the store is held -/
def SR (K : PySem.W.Frag) (st : Sto) (H : Hp) : Prop := ∀ a ds, st a = some ds → ∃ xs, H a = some (.lst xs) ∧ DvsD K st H xs ds
/-- what was laid and not owned stays so -/
def Fr (st : Sto) (H : Hp) (st' : Sto) (H' : Hp) : Prop := ∀ b o, H b = some o → st b = none → H' b = some o ∧ st' b = none
theorem Fr.refl (st : Sto) (H : Hp) : Fr st H st H := fun _ _ h f => ⟨h, f⟩
theorem Fr.trans {st st1 st2 : Sto} {H H1 H2 : Hp} (a : Fr st H st1 H1) (b : Fr st1 H1 st2 H2) : Fr st H st2 H2 := fun c o h f =>
  let ⟨h1, f1⟩ := a c o h f
  b c o h1 f1
theorem SR.free {K : PySem.W.Frag} {st : Sto} {H : Hp} (S : SR K st H) {a : Addr} {o : HO} (h : H a = some o) (n : ∀ xs, o ≠ .lst xs) : st a = none := by
  cases e : st a with
  | none => rfl
  | some ds =>
    obtain ⟨xs, q, _⟩ := S a ds e
    rw [h] at q
    exact absurd (Option.some.inj q) (n xs)
theorem SR.free0 {K : PySem.W.Frag} {st : Sto} {H : Hp} (S : SR K st H) {a : Addr} (h : H a = none) : st a = none := by
  cases e : st a with
  | none => rfl
  | some ds =>
    obtain ⟨xs, q, _⟩ := S a ds e
    rw [h] at q
    cases q
section
variable {K : PySem.W.Frag} {st st' : Sto} {H H' : Hp}
theorem sqT_mono (F : Fr st H st' H') (S : SR K st H) {a : Addr} {xs : List V} (h : SqT K H a xs) : SqT K H' a xs := by
  rcases h with (h | ⟨o, h⟩) | h
  · exact .inl (.inl (F a _ h (S.free h fun xs z => nomatch z)).1)
  · exact .inl (.inr ⟨o, (F a _ h (S.free h fun xs z => nomatch z)).1⟩)
  · exact .inr h
mutual
theorem Dv.mono (F : Fr st H st' H') (S : SR K st H) : ∀ {v : V} {x : PyData}, Dv K st H v x → Dv K st' H' v x
  | _, _, .non => .non
  | _, _, .bl b => .bl b
  | _, _, .int i => .int i
  | _, _, .str x => .str x
  | _, _, .lst h f r => .lst (F _ _ h f).1 (F _ _ h f).2 (Dvs.mono F S r)
  | _, _, .tup h r => .tup (sqT_mono F S h) (Dvs.mono F S r)
  | _, _, .dic h f r q => .dic (F _ _ h f).1 (F _ _ h f).2 (Dvs.mono F S r) (Dvs.mono F S q)
theorem Dvs.mono (F : Fr st H st' H') (S : SR K st H) : ∀ {vs : List V} {xs : List PyData}, Dvs K st H vs xs → Dvs K st' H' vs xs
  | _, _, .nil => .nil
  | _, _, .cons h t => .cons (Dv.mono F S h) (Dvs.mono F S t)
end
theorem DvD.mono (F : Fr st H st' H') (S : SR K st H) {v : V} {x : D} (h : DvD K st H v x) : DvD K st' H' v x := by
  cases h with
  | d h => exact .d (h.mono F S)
  | own a => exact .own a
  | scr h f =>
    rcases f with ⟨o, f⟩ | f
    · have q := (F _ _ f (S.free f fun xs z => nomatch z)).1
      exact .scr (.inl (.inr ⟨o, q⟩)) (.inl ⟨o, q⟩)
    · refine .scr ?_ (.inr f)
      rcases f with (f | ⟨o, f⟩) | f
      · cases f
      · cases f
      · exact .inr f
theorem DvsD.mono (F : Fr st H st' H') (S : SR K st H) : ∀ {vs : List V} {xs : List D}, DvsD K st H vs xs → DvsD K st' H' vs xs
  | _, _, .nil => .nil
  | _, _, .cons h t => .cons (h.mono F S) (DvsD.mono F S t)
theorem Dvs.length : ∀ {vs : List V} {xs : List PyData}, Dvs K st H vs xs → vs.length = xs.length
  | _, _, .nil => rfl
  | _, _, .cons _ t => by rw [List.length_cons, List.length_cons, Dvs.length t]
theorem Dvs.of : ∀ {vs : List V} {xs : List PyData}, DvsD K st H vs (xs.map D.d) → Dvs K st H vs xs
  | [], [], _ => .nil
  | _ :: _, _ :: _, .cons (.d h) t => .cons h (Dvs.of t)
theorem Dvs.to : ∀ {vs : List V} {xs : List PyData}, Dvs K st H vs xs → DvsD K st H vs (xs.map D.d)
  | _, _, .nil => .nil
  | _, _, .cons h t => .cons (.d h) (Dvs.to t)
theorem Dvs.append : ∀ {vs ws : List V} {xs ys : List PyData}, Dvs K st H vs xs → Dvs K st H ws ys → Dvs K st H (vs ++ ws) (xs ++ ys)
  | _, _, _, _, .nil, q => q
  | _, _, _, _, .cons h t, q => .cons h (Dvs.append t q)
theorem Dvs.drop : ∀ {vs : List V} {xs : List PyData} (n : Nat), Dvs K st H vs xs → Dvs K st H (vs.drop n) (xs.drop n)
  | _, _, 0, r => r
  | _, _, _ + 1, .nil => .nil
  | _, _, n + 1, .cons _ t => Dvs.drop n t
theorem Dvs.take : ∀ {vs : List V} {xs : List PyData} (n : Nat), Dvs K st H vs xs → Dvs K st H (vs.take n) (xs.take n)
  | _, _, 0, _ => .nil
  | _, _, _ + 1, .nil => .nil
  | _, _, n + 1, .cons h t => .cons h (Dvs.take n t)
theorem Dvs.get : ∀ {vs : List V} {xs : List PyData} {i : Nat} {x : PyData}, Dvs K st H vs xs → xs[i]? = some x → ∃ v, vs[i]? = some v ∧ Dv K st H v x
  | _, _, _, _, .nil, e => by simp at e
  | _, _, 0, _, .cons h _, e => by
    simp at e
    subst e
    exact ⟨_, rfl, h⟩
  | _, _, i + 1, x, .cons _ t, e => by
    obtain ⟨v, h1, h2⟩ := Dvs.get (i := i) (x := x) t (by simpa using e)
    exact ⟨v, by simpa using h1, h2⟩
theorem DvsD.get : ∀ {vs : List V} {xs : List D} {i : Nat} {x : D}, DvsD K st H vs xs → xs[i]? = some x → ∃ v, vs[i]? = some v ∧ DvD K st H v x
  | _, _, _, _, .nil, e => by simp at e
  | _, _, 0, _, .cons h _, e => by
    simp at e
    subst e
    exact ⟨_, rfl, h⟩
  | _, _, i + 1, x, .cons _ t, e => by
    obtain ⟨v, h1, h2⟩ := DvsD.get (i := i) (x := x) t (by simpa using e)
    exact ⟨v, by simpa using h1, h2⟩
theorem DvsD.snoc : ∀ {vs : List V} {xs : List D} {v : V} {x : D}, DvsD K st H vs xs → DvD K st H v x → DvsD K st H (vs ++ [v]) (xs ++ [x])
  | _, _, _, _, .nil, q => .cons q .nil
  | _, _, _, _, .cons h t, q => .cons h (DvsD.snoc t q)
theorem DvsD.set : ∀ {vs : List V} {xs : List D} {v : V} {x : D} (i : Nat), DvsD K st H vs xs → DvD K st H v x → DvsD K st H (vs.set i v) (xs.set i x)
  | _, _, _, _, _, .nil, _ => .nil
  | _, _, _, _, 0, .cons _ t, q => .cons q t
  | _, _, _, _, i + 1, .cons h t, q => .cons h (DvsD.set i t q)
end
/-! ### laying things -/
section
variable {K : PySem.W.Frag} {st : Sto} {H : Hp} {p : Addr} {o : HO}
theorem fr_new (hp : H p = none) : Fr st H st (upd H p o) := fun b u h f => ⟨by rw [upd_ne (ne_of_none h hp)]; exact h, f⟩
theorem sr_new (S : SR K st H) (hp : H p = none) : SR K st (upd H p o) := fun a ds e => by
  obtain ⟨xs, h, r⟩ := S a ds e
  exact ⟨xs, by rw [upd_ne (ne_of_none h hp)]; exact h, r.mono (fr_new hp) S⟩
theorem fr_own (hp : H p = none) {ds : List D} : Fr st H (put st p ds) (upd H p o) := fun b u h f => by
  have n := ne_of_none h hp
  exact ⟨by rw [upd_ne n]; exact h, by rw [put_ne n]; exact f⟩
theorem sr_own (S : SR K st H) (hp : H p = none) {xs : List V} {ds : List D} (r : DvsD K st H xs ds) : SR K (put st p ds) (upd H p (.lst xs)) := fun a es e => by
  by_cases h : a = p
  · subst h
    rw [put_same] at e
    cases e
    exact ⟨xs, upd_same, r.mono (fr_own hp) S⟩
  · rw [put_ne h] at e
    obtain ⟨ys, q, r2⟩ := S a es e
    exact ⟨ys, by rw [upd_ne h]; exact q, r2.mono (fr_own hp) S⟩
/-- an owned list changes -/
theorem fr_put {ds es : List D} (ho : st p = some ds) : Fr st H (put st p es) (upd H p o) := fun b u h f => by
  have n : b ≠ p := fun z => by
    rw [z, ho] at f
    cases f
  exact ⟨by rw [upd_ne n]; exact h, by rw [put_ne n]; exact f⟩
theorem sr_put (S : SR K st H) {ds es : List D} (ho : st p = some ds) {xs : List V} (r : DvsD K st H xs es) : SR K (put st p es) (upd H p (.lst xs)) := fun a gs e => by
  by_cases h : a = p
  · subst h
    rw [put_same] at e
    cases e
    exact ⟨xs, upd_same, r.mono (fr_put ho) S⟩
  · rw [put_ne h] at e
    obtain ⟨ys, q, r2⟩ := S a gs e
    exact ⟨ys, by rw [upd_ne h]; exact q, r2.mono (fr_put ho) S⟩
end
/-! ### the judgements over data -/
abbrev Ed := List (Option D)
abbrev Kd := D → Sto → Prop
abbrev TEd := Ed → Sto → Kd → Prop
abbrev TTd := Ed → Sto → (Bool → Sto → Prop) → Prop
abbrev TAd := Ed → Sto → (List D → Sto → Prop) → Prop
structure EndsD where
  nx : Ed → Sto → Prop
  rt : Kd
  bk : Ed → Sto → Prop := fun _ _ => False
  ct : Ed → Sto → Prop := fun _ _ => False
abbrev TSd := EndsD → Ed → Sto → Prop
structure RE (K : PySem.W.Frag) (st : Sto) (H : Hp) (σ : L2.St) (e : Ed) : Prop where
  len : σ.length = e.length
  at_ : ∀ (i : Nat) (d : D), e[i]? = some (some d) → ∃ v, σ[i]? = some (some v) ∧ DvD K st H v d
theorem RE.mono {K : PySem.W.Frag} {st st' : Sto} {H H' : Hp} {σ : L2.St} {e : Ed} (r : RE K st H σ e) (F : Fr st H st' H') (S : SR K st H) : RE K st' H' σ e :=
  ⟨r.len, fun i d h => let ⟨v, h1, h2⟩ := r.at_ i d h; ⟨v, h1, h2.mono F S⟩⟩
theorem RE.set {K : PySem.W.Frag} {st : Sto} {H : Hp} {σ : L2.St} {e : Ed} (r : RE K st H σ e) {i : Nat} {v : V} {d : D} (h : DvD K st H v d) : RE K st H (σ.set i (some v)) (e.set i (some d)) := by
  refine ⟨by rw [List.length_set, List.length_set]; exact r.len, fun j x hj => ?_⟩
  by_cases hi : i = j
  · subst hi
    rw [List.getElem?_set] at hj ⊢
    rw [if_pos rfl] at hj ⊢
    rw [r.len]
    split at hj
    · rename_i hl
      rw [if_pos hl]
      cases Option.some.inj (Option.some.inj hj)
      exact ⟨v, rfl, h⟩
    · cases hj
  · rw [List.getElem?_set_ne hi] at hj ⊢
    exact r.at_ j x hj
/-- the store that is seen and one that is not -/
def jn (st hid : Sto) : Sto := fun a => match st a with
  | some ds => some ds
  | none => hid a
theorem jn_some {st hid : Sto} {a : Addr} {ds : List D} (h : st a = some ds) : jn st hid a = some ds := by
  unfold jn
  rw [h]
theorem jn_none {st hid : Sto} {a : Addr} (h : st a = none) : jn st hid a = hid a := by
  unfold jn
  rw [h]
theorem jn_put {st hid : Sto} {a : Addr} {ds : List D} : jn (put st a ds) hid = put (jn st hid) a ds := by
  funext b
  by_cases h : b = a
  · subst h
    rw [put_same, jn_some put_same]
  · rw [put_ne h]
    unfold jn
    rw [put_ne h]
theorem jn_free {st hid : Sto} {a : Addr} (h : jn st hid a = none) : st a = none ∧ hid a = none := by
  unfold jn at h
  cases e : st a with
  | some ds =>
    rw [e] at h
    cases h
  | none =>
    rw [e] at h
    exact ⟨rfl, h⟩
def cut (st : Sto) (a : Addr) : Sto := fun b => if b = a then none else st b
theorem cut_same {st : Sto} {a : Addr} : cut st a a = none := if_pos rfl
theorem cut_ne {st : Sto} {a b : Addr} (h : b ≠ a) : cut st a b = st b := if_neg h
structure Sx (K : PySem.W.Frag) (st hid : Sto) (H : Hp) : Prop where
  dj : ∀ a, hid a ≠ none → st a = none
  sr : SR K (jn st hid) H
abbrev FrX (st hid : Sto) (H : Hp) (st' : Sto) (H' : Hp) : Prop := Fr (jn st hid) H (jn st' hid) H'
section
variable {K : PySem.W.Frag} {st hid : Sto} {H : Hp} {p : Addr} {o : HO}
theorem Sx.new (S : Sx K st hid H) (hp : H p = none) : Sx K st hid (upd H p o) := ⟨S.dj, sr_new S.sr hp⟩
theorem Sx.own (S : Sx K st hid H) (hp : H p = none) {xs : List V} {ds : List D} (r : DvsD K (jn st hid) H xs ds) : Sx K (put st p ds) hid (upd H p (.lst xs)) := by
  refine ⟨fun a h => ?_, by rw [jn_put]; exact sr_own S.sr hp r⟩
  by_cases e : a = p
  · subst e
    exact absurd (jn_free (S.sr.free0 hp)).2 h
  · rw [put_ne e]
    exact S.dj a h
theorem fx_own (hp : H p = none) {ds : List D} : FrX st hid H (put st p ds) (upd H p o) := by
  unfold FrX
  rw [jn_put]
  exact fr_own hp
theorem Sx.store (S : Sx K st hid H) {ds es : List D} (ho : st p = some ds) {xs : List V} (r : DvsD K (jn st hid) H xs es) : Sx K (put st p es) hid (upd H p (.lst xs)) := by
  refine ⟨fun a h => ?_, by rw [jn_put]; exact sr_put S.sr (jn_some ho) r⟩
  by_cases e : a = p
  · subst e
    have := S.dj a h
    rw [ho] at this
    cases this
  · rw [put_ne e]
    exact S.dj a h
theorem fx_put {ds es : List D} (ho : st p = some ds) : FrX st hid H (put st p es) (upd H p o) := by
  unfold FrX
  rw [jn_put]
  exact fr_put (jn_some ho)
theorem Sx.frz (S : Sx K st hid H) {ds : List D} (ho : st p = some ds) : Sx K (cut st p) hid H ∧ FrX st hid H (cut st p) H ∧ jn (cut st p) hid p = none := by
  have hp : hid p = none := by
    cases e : hid p with
    | none => rfl
    | some es =>
      have := S.dj p (by rw [e]; exact fun z => nomatch z)
      rw [ho] at this
      cases this
  have hj : ∀ b, b ≠ p → jn (cut st p) hid b = jn st hid b := fun b n => by
    unfold jn
    rw [cut_ne n]
  have hjp : jn (cut st p) hid p = none := (jn_none cut_same).trans hp
  have F : FrX st hid H (cut st p) H := fun b o h f => ⟨h, by
    by_cases n : b = p
    · rw [n]
      exact hjp
    · rw [hj b n]
      exact f⟩
  refine ⟨⟨fun a h => ?_, fun a es e => ?_⟩, F, hjp⟩
  · by_cases n : a = p
    · rw [n]
      exact cut_same
    · rw [cut_ne n]
      exact S.dj a h
  · have n : a ≠ p := fun z => by
      rw [z, hjp] at e
      cases e
    rw [hj a n] at e
    obtain ⟨xs, q, r⟩ := S.sr a es e
    exact ⟨xs, q, r.mono F S.sr⟩
theorem Sx.at_ (S : Sx K st hid H) {ds : List D} (ho : st p = some ds) : ∃ xs, H p = some (.lst xs) ∧ DvsD K (jn st hid) H xs ds := S.sr p ds (jn_some ho)
end
/-- what a rule over data promises of a value -/
abbrev Go (K : PySem.W.Frag) (st hid : Sto) (H : Hp) (Qd : Kd) (Q : VK) : Prop := ∀ v H' d st', FrX st hid H st' H' → Sx K st' hid H' → DvD K (jn st' hid) H' v d → Qd d st' → Q v H'
abbrev GoT (K : PySem.W.Frag) (st hid : Sto) (H : Hp) (Qd : Bool → Sto → Prop) (Q : Bool → Hp → Prop) : Prop := ∀ b H' st', FrX st hid H st' H' → Sx K st' hid H' → Qd b st' → Q b H'
abbrev GoA (K : PySem.W.Frag) (st hid : Sto) (H : Hp) (Qd : List D → Sto → Prop) (Q : List V → Hp → Prop) : Prop := ∀ vs H' ds st', FrX st hid H st' H' → Sx K st' hid H' → DvsD K (jn st' hid) H' vs ds → Qd ds st' → Q vs H'
abbrev GoS (K : PySem.W.Frag) (st hid : Sto) (H : Hp) (Qd : Ed → Sto → Prop) (Q : L2.St → Hp → Prop) : Prop := ∀ σ' H' e' st', FrX st hid H st' H' → Sx K st' hid H' → RE K (jn st' hid) H' σ' e' → Qd e' st' → Q σ' H'
def up (K : PySem.W.Frag) (t : TEd) : TE := fun σ H Q => ∃ e st hid Qd, RE K (jn st hid) H σ e ∧ Sx K st hid H ∧ t e st Qd ∧ Go K st hid H Qd Q
def upT (K : PySem.W.Frag) (t : TTd) : TT := fun σ H Q => ∃ e st hid Qd, RE K (jn st hid) H σ e ∧ Sx K st hid H ∧ t e st Qd ∧ GoT K st hid H Qd Q
def upA (K : PySem.W.Frag) (t : TAd) : TA := fun σ H Q => ∃ e st hid Qd, RE K (jn st hid) H σ e ∧ Sx K st hid H ∧ t e st Qd ∧ GoA K st hid H Qd Q
def upS (K : PySem.W.Frag) (t : TSd) : TS := fun E σ H => ∃ e st hid Ed, RE K (jn st hid) H σ e ∧ Sx K st hid H ∧ t Ed e st ∧ GoS K st hid H Ed.nx E.nx ∧ Go K st hid H Ed.rt E.rt ∧ GoS K st hid H Ed.bk E.bk ∧ GoS K st hid H Ed.ct E.ct
section
variable {K : PySem.W.Frag} {st hid st1 : Sto} {H H1 : Hp}
theorem Go.mono {Qd : Kd} {Q : VK} (g : Go K st hid H Qd Q) (F : FrX st hid H st1 H1) : Go K st1 hid H1 Qd Q := fun v H' d st' F' => g v H' d st' (Fr.trans F F')
theorem GoT.mono {Qd : Bool → Sto → Prop} {Q : Bool → Hp → Prop} (g : GoT K st hid H Qd Q) (F : FrX st hid H st1 H1) : GoT K st1 hid H1 Qd Q := fun b H' st' F' => g b H' st' (Fr.trans F F')
theorem GoA.mono {Qd : List D → Sto → Prop} {Q : List V → Hp → Prop} (g : GoA K st hid H Qd Q) (F : FrX st hid H st1 H1) : GoA K st1 hid H1 Qd Q := fun b H' ds st' F' => g b H' ds st' (Fr.trans F F')
theorem GoS.mono {Qd : Ed → Sto → Prop} {Q : L2.St → Hp → Prop} (g : GoS K st hid H Qd Q) (F : FrX st hid H st1 H1) : GoS K st1 hid H1 Qd Q := fun v H' d st' F' => g v H' d st' (Fr.trans F F')
theorem Go.now {Qd : Kd} {Q : VK} (g : Go K st hid H Qd Q) {v : V} {d : D} (S : Sx K st hid H) (h : DvD K (jn st hid) H v d) (q : Qd d st) : Q v H := g v H d st (Fr.refl _ _) S h q
/-- a new thing laid -/
theorem Go.new {Qd : Kd} {Q : VK} (g : Go K st hid H Qd Q) {p : Addr} {o : HO} {d : D} (S : Sx K st hid H) (hp : H p = none) (h : DvD K (jn st hid) (upd H p o) (.ref p) d) (q : Qd d st) : Q (.ref p) (upd H p o) := g _ _ d st (fr_new hp) (S.new hp) h q
end
abbrev PD (X : Cx) (e : Expr) (t : TEd) : Prop := PE X e (up X.K t)
abbrev PDT (X : Cx) (e : Expr) (t : TTd) : Prop := PT X e (upT X.K t)
abbrev PDW (X : Cx) (e : Expr) (t : TTd) : Prop := PW X e (upT X.K t)
abbrev PDA (X : Cx) (es : List Expr) (t : TAd) : Prop := PA X es (upA X.K t)
abbrev PDS (X : Cx) (s : Stmt) (t : TSd) : Prop := PS X s (upS X.K t)
abbrev PDSs (X : Cx) (s : List Stmt) (t : TSd) : Prop := PSs X s (upS X.K t)
theorem PE.imp {X : Cx} {e : Expr} {t t' : TE} (h : PE X e t) (i : ∀ σ H Q, t' σ H Q → t σ H Q) : PE X e t' := ⟨fun pins s σ H Q I w => h.run pins s σ H Q I (i σ H Q w)⟩
theorem PT.imp {X : Cx} {e : Expr} {t t' : TT} (h : PT X e t) (i : ∀ σ H Q, t' σ H Q → t σ H Q) : PT X e t' := ⟨fun pins s σ H Q I w => h.run pins s σ H Q I (i σ H Q w)⟩
theorem PW.imp {X : Cx} {e : Expr} {t t' : TT} (h : PW X e t) (i : ∀ σ H Q, t' σ H Q → t σ H Q) : PW X e t' := ⟨fun wh pins s σ H Q I w => h.run wh pins s σ H Q I (i σ H Q w)⟩
theorem PA.imp {X : Cx} {e : List Expr} {t t' : TA} (h : PA X e t) (i : ∀ σ H Q, t' σ H Q → t σ H Q) : PA X e t' := ⟨fun pos pins s σ H Q I w => h.run pos pins s σ H Q I (i σ H Q w)⟩
theorem PS.imp {X : Cx} {e : Stmt} {t t' : TS} (h : PS X e t) (i : ∀ D σ H, t' D σ H → t D σ H) : PS X e t' := ⟨fun pins s σ H Q I w => h.run pins s σ H Q I (i Q σ H w)⟩
theorem PSs.imp {X : Cx} {e : List Stmt} {t t' : TS} (h : PSs X e t) (i : ∀ D σ H, t' D σ H → t D σ H) : PSs X e t' := ⟨fun pins s σ H Q I w => h.run pins s σ H Q I (i Q σ H w)⟩
/-! ### names, constants -/
section
variable {X : Cx} {pos : Pos} {a b c : Expr} {ta tb tc : TEd}
def dVar (i : Nat) : TEd := fun e st Q => ∃ d, e[i]? = some (some d) ∧ Q d st
theorem pd (i : Nat) {x : Str} (hN : X.N[i]? = some x := by rfl) (hv : Vis X.env.scope x := by first | exact Or.inl rfl | exact Or.inr (Or.inl rfl) | exact Or.inr (Or.inr rfl)) (hd : (x == ("__debug__" : Str)) = false := by decide)
    (hcd : (x == ("__classdict__" : Str)) = false := by decide) : PD X (.Name x pos) (dVar i) :=
  PE.imp (pe_var hN hv hd hcd) fun σ H Q ⟨e, st, hid, Qd, re, S, ⟨d, h, q⟩, k⟩ => by
    obtain ⟨v, h1, h2⟩ := re.at_ i d h
    exact ⟨v, h1, k.now S h2 q⟩
def dC (x : PyData) : TEd := fun _ st Q => Q (.d x) st
theorem pd_int {i : Int} {j : Nat} : PD X (.Constant (.int i) j pos) (dC (.int i)) :=
  PE.imp pe_int fun σ H Q ⟨e, st, hid, Qd, re, S, q, k⟩ => k.now S (.d (.int i)) q
theorem pd_bl {b : Bool} {j : Nat} : PD X (.Constant (.bool b) j pos) (dC (.bool b)) :=
  PE.imp pe_bl fun σ H Q ⟨e, st, hid, Qd, re, S, q, k⟩ => k.now S (.d (.bl b)) q
theorem pd_non {j : Nat} : PD X (.Constant .none j pos) (dC .none) :=
  PE.imp pe_non fun σ H Q ⟨e, st, hid, Qd, re, S, q, k⟩ => k.now S (.d .non) q
theorem pd_str {x : Str} {j : Nat} : PD X (.Constant (.str x) j pos) (dC (.str x)) :=
  PE.imp pe_str fun σ H Q ⟨e, st, hid, Qd, re, S, q, k⟩ => k.now S (.d (.str x)) q
end
end DL
namespace DL
open PySem PySem.Spec PyProof.Rows L2
theorem OpR.imp {X : Cx} {f : Value → Value → Sem Value} {r r' : R2} (h : OpR X f r) (i : ∀ x y H Q, r' x y H Q → r x y H Q) : OpR X f r' := fun pins s σ H x y v u Q I rx ry q => h pins s σ H x y v u Q I rx ry (i x y H Q q)
/-! ### lists of things -/
def pures : List D → Option (List PyData)
  | [] => some []
  | .d x :: r => (pures r).map (x :: ·)
  | _ :: _ => none
theorem pures_eq : ∀ {ds : List D} {xs : List PyData}, pures ds = some xs → ds = xs.map D.d
  | [], _, h => by
    cases h
    rfl
  | .d x :: r, xs, h => by
    unfold pures at h
    cases e : pures r with
    | none =>
      rw [e] at h
      cases h
    | some ys =>
      rw [e] at h
      cases h
      rw [pures_eq e]
      rfl
  | .own _ :: _, _, h => by cases h
  | .scr _ :: _, _, h => by cases h
theorem pures_map : ∀ xs : List PyData, pures (xs.map D.d) = some xs
  | [] => rfl
  | x :: xs => by
    show (pures (xs.map D.d)).map (x :: ·) = _
    rw [pures_map xs]
    rfl
/-- a new list: a value, or one that may still change -/
def mkL (ds : List D) (st : Sto) (Q : Kd) : Prop := (∃ xs, pures ds = some xs ∧ Q (.d (.list xs)) st) ∨ (∀ p, st p = none → Q (.own p) (put st p ds))
theorem mkL_go {K : PySem.W.Frag} {st hid : Sto} {H : Hp} {Qd : Kd} {Q : VK} {ds : List D} {xs : List V} {p : Addr} (h : mkL ds st Qd) (S : Sx K st hid H) (hp : H p = none) (r : DvsD K (jn st hid) H xs ds) (k : Go K st hid H Qd Q) : Q (.ref p) (upd H p (.lst xs)) := by
  have fp := jn_free (S.sr.free0 hp)
  rcases h with ⟨ys, e, q⟩ | q
  · have e2 := pures_eq e
    subst e2
    exact k.new S hp (.d (.lst upd_same (S.sr.free0 hp) ((Dvs.of r).mono (fr_new hp) S.sr))) q
  · exact k _ _ (.own p) _ (fx_own hp) (S.own hp r) (.own p) (q p fp.1)
section
variable {X : Cx} {pos p p2 : Pos} {a b c e : Expr} {es rest : List Expr} {ta tb tc te : TEd} {t : TAd}
/-! ### argument lists, displays -/
def dNil : TAd := fun _ st Q => Q [] st
def dCons (ta : TEd) (tr : TAd) : TAd := fun e st Q => ta e st fun x st1 => tr e st1 fun xs st2 => Q (x :: xs) st2
theorem pda_nil : PDA X [] dNil := PA.imp pa_nil fun σ H Q ⟨e, st, hid, Qd, re, S, h, k⟩ => k [] H [] st (Fr.refl _ _) S .nil h
theorem pda_cons (ha : PD X e te) (hr : PDA X es t) (hs : starEach (e :: es) X.env = (false, eval e X.env) :: starEach es X.env := by rfl) : PDA X (e :: es) (dCons te t) :=
  PA.imp (pa_cons ha hr hs) fun σ H Q ⟨e, st, hid, Qd, re, S, h, k⟩ => ⟨e, st, hid, _, re, S, h, fun v1 H1 d1 st1 F1 S1 r1 h1 => ⟨e, st1, hid, _, re.mono F1 S.sr, S1, h1, fun vs H2 ds st2 F2 S2 r2 h2 =>
    k _ H2 (d1 :: ds) st2 (Fr.trans F1 F2) S2 (.cons (r1.mono F2 S1.sr) r2) h2⟩⟩
def dTup (t : TAd) : TEd := fun e st Q => t e st fun ds st' => match pures ds with
  | some xs => ds.length ≤ sizeLine ∧ Q (.d (.tuple xs)) st'
  | none => False
theorem pd_tup {x1} (h : PDA X es t) : PD X (.Tuple es x1 pos) (dTup t) :=
  PE.imp (pe_tup h) fun σ H Q ⟨e, st, hid, Qd, re, S, h, k⟩ => ⟨e, st, hid, _, re, S, h, fun vs H1 ds st1 F1 S1 r1 h1 => by
    cases q : pures ds with
    | none =>
      rw [q] at h1
      exact h1.elim
    | some xs =>
      rw [q] at h1
      have e2 := pures_eq q
      subst e2
      refine ⟨by rw [Paired.length r1]; exact h1.1, fun p hp => (k.mono F1).new S1 hp (.d (.tup (.inl (.inl upd_same)) ((Dvs.of r1).mono (fr_new hp) S1.sr))) h1.2⟩⟩
def dLst (t : TAd) : TEd := fun e st Q => t e st fun ds st' => ds.length ≤ sizeLine ∧ mkL ds st' Q
theorem pd_lst (h : PDA X es t) : PD X (.List es pos) (dLst t) :=
  PE.imp (pe_lst h) fun σ H Q ⟨e, st, hid, Qd, re, S, h, k⟩ => ⟨e, st, hid, _, re, S, h, fun vs H1 ds st1 F1 S1 r1 h1 =>
    ⟨by rw [Paired.length r1]; exact h1.1, fun p hp => mkL_go h1.2 S1 hp r1 (k.mono F1)⟩⟩
/-- .. as a value -/
def dLstV (t : TAd) : TEd := fun e st Q => t e st fun ds st' => match pures ds with
  | some xs => ds.length ≤ sizeLine ∧ Q (.d (.list xs)) st'
  | none => False
theorem pd_lstV (h : PDA X es t) : PD X (.List es pos) (dLstV t) :=
  PE.imp (pe_lst h) fun σ H Q ⟨e, st, hid, Qd, re, S, h, k⟩ => ⟨e, st, hid, _, re, S, h, fun vs H1 ds st1 F1 S1 r1 h1 => by
    cases q : pures ds with
    | none =>
      rw [q] at h1
      exact h1.elim
    | some xs =>
      rw [q] at h1
      exact ⟨by rw [Paired.length r1]; exact h1.1, fun p hp => mkL_go (.inl ⟨xs, q, h1.2⟩) S1 hp r1 (k.mono F1)⟩⟩
/-! ### operators -/
abbrev R2d := D → D → Sto → Kd → Prop
def upR (K : PySem.W.Frag) (r : R2d) : R2 := fun x y H Q => ∃ dx dy st hid Qd, DvD K (jn st hid) H x dx ∧ DvD K (jn st hid) H y dy ∧ Sx K st hid H ∧ r dx dy st Qd ∧ Go K st hid H Qd Q
def dBin (r : R2d) (ta tb : TEd) : TEd := fun e st Q => ta e st fun x st1 => tb e st1 fun y st2 => r x y st2 Q
theorem bin_imp {K : PySem.W.Frag} {r : R2d} {σ : L2.St} {H : Hp} {Q : VK} (w : up K (dBin r ta tb) σ H Q) : tOp (upR K r) (up K ta) (up K tb) σ H Q := by
  obtain ⟨e, st, hid, Qd, re, S, h, k⟩ := w
  exact ⟨e, st, hid, _, re, S, h, fun v1 H1 d1 st1 F1 S1 r1 h1 => ⟨e, st1, hid, _, re.mono F1 S.sr, S1, h1, fun v2 H2 d2 st2 F2 S2 r2 h2 =>
    ⟨d1, d2, st2, hid, Qd, r1.mono F2 S1.sr, r2, S2, h2, k.mono (Fr.trans F1 F2)⟩⟩⟩
theorem pd_bin {op : Operator} {r : R2d} (ho : OpR X (binaryOp op) (upR X.K r)) (ha : PD X a ta) (hb : PD X b tb) : PD X (.BinOp a op b pos) (dBin r ta tb) := PE.imp (pe_op ho ha hb) fun _ _ _ => bin_imp
theorem pd_cmp {op : CmpOp} {r : R2d} (ho : OpR X (compareOp op) (upR X.K r)) (ha : PD X a ta) (hb : PD X b tb) (hm : behindInMarks op b = false) : PD X (.Compare a [op] [b] pos) (dBin r ta tb) := PE.imp (pe_cmpR ho ha hb hm) fun _ _ _ => bin_imp
/-- a bool as a test -/
def asB (Q : Bool → Sto → Prop) : Kd := fun d st => match d with
  | .d (.bool b) => Q b st
  | _ => False
def dTst (t : TEd) : TTd := fun e st Q => t e st (asB Q)
theorem tst_go {K : PySem.W.Frag} {st hid : Sto} {H : Hp} {Qd : Bool → Sto → Prop} {Q : Bool → Hp → Prop} (k : GoT K st hid H Qd Q) : Go K st hid H (asB Qd) (fun x H' => ∃ c, x = .bl c ∧ Q c H') := fun v H' d st' F S r q => by
  cases r with
  | own a => exact q.elim
  | scr h f => exact q.elim
  | d h =>
    cases h with
    | bl b => exact ⟨b, rfl, k b H' st' F S q⟩
    | non => exact q.elim
    | int i => exact q.elim
    | str i => exact q.elim
    | lst h f r => exact q.elim
    | tup h r => exact q.elim
    | dic h f r z => exact q.elim
theorem pdt_val (h : PD X e te) (he : ∀ whole, isTrue e X.env whole = (do let v ← whole; standAt e.pos; holding [v] (truthy v)) := by intro _; rfl) : PDT X e (dTst te) :=
  PT.imp (pt_val h he) fun σ H Q ⟨e, st, hid, Qd, re, S, h, k⟩ => ⟨e, st, hid, _, re, S, h, tst_go k⟩
theorem pdt_cmp {op : CmpOp} {r : R2d} (ho : OpR X (compareOp op) (upR X.K r)) (ha : PD X a ta) (hb : PD X b tb) (hm : behindInMarks op b = false) : PDT X (.Compare a [op] [b] pos) (dTst (dBin r ta tb)) :=
  PT.imp (pt_cmpR ho ha hb hm) fun σ H Q ⟨e, st, hid, Qd, re, S, h, k⟩ => bin_imp ⟨e, st, hid, _, re, S, h, tst_go k⟩
def dChain (r r' : R2d) (ta tb tc : TEd) : TEd := fun e st Q => ta e st fun x st1 => tb e st1 fun y st2 => r x y st2 (asB fun k st3 => if k = true then tc e st3 fun z st4 => r' y z st4 Q else Q (.d (.bool false)) st3)
theorem chain_imp {K : PySem.W.Frag} {r r' : R2d} {σ : L2.St} {H : Hp} {Q : VK} (w : up K (dChain r r' ta tb tc) σ H Q) : tChain (upR K r) (upR K r') (up K ta) (up K tb) (up K tc) σ H Q := by
  obtain ⟨e, st, hid, Qd, re, S, h, k⟩ := w
  refine ⟨e, st, hid, _, re, S, h, fun v1 H1 d1 st1 F1 S1 r1 h1 => ⟨e, st1, hid, _, re.mono F1 S.sr, S1, h1, fun v2 H2 d2 st2 F2 S2 r2 h2 => ⟨d1, d2, st2, hid, _, r1.mono F2 S1.sr, r2, S2, h2, tst_go fun b H3 st3 F3 S3 h3 => ?_⟩⟩⟩
  have F := Fr.trans F1 (Fr.trans F2 F3)
  cases b with
  | false =>
    rw [if_neg Bool.false_ne_true] at h3 ⊢
    exact (k.mono F).now S3 (.d (.bl false)) h3
  | true =>
    rw [if_pos rfl] at h3 ⊢
    exact ⟨e, st3, hid, _, re.mono F S.sr, S3, h3, fun v4 H4 d4 st4 F4 S4 r4 h4 => ⟨d2, d4, st4, hid, Qd, r2.mono (Fr.trans F3 F4) S2.sr, r4, S4, h4, k.mono (Fr.trans F F4)⟩⟩
theorem pd_chain {op op' : CmpOp} {r r' : R2d} (ho : OpR X (compareOp op) (upR X.K r)) (ho' : OpR X (compareOp op') (upR X.K r')) (ha : PD X a ta) (hb : PD X b tb) (hc : PD X c tc)
    (hm : lastMarks [op, op'] [b, c] = false := by with_unfolding_all rfl) : PD X (.Compare a [op, op'] [b, c] pos) (dChain r r' ta tb tc) := PE.imp (pe_chain ho ho' ha hb hc hm) fun _ _ _ => chain_imp
theorem pdt_chain {op op' : CmpOp} {r r' : R2d} (ho : OpR X (compareOp op) (upR X.K r)) (ho' : OpR X (compareOp op') (upR X.K r')) (ha : PD X a ta) (hb : PD X b tb) (hc : PD X c tc)
    (hm : lastMarks [op, op'] [b, c] = false := by with_unfolding_all rfl) : PDT X (.Compare a [op, op'] [b, c] pos) (dTst (dChain r r' ta tb tc)) :=
  PT.imp (pt_chain ho ho' ha hb hc hm) fun σ H Q ⟨e, st, hid, Qd, re, S, h, k⟩ => chain_imp ⟨e, st, hid, _, re, S, h, tst_go k⟩
/-! ### and, or, not, if -/
variable {tA tB : TTd}
def dAndT (t u : TTd) : TTd := fun e st Q => t e st fun c st1 => if c = true then u e st1 Q else Q false st1
def dOrT (t u : TTd) : TTd := fun e st Q => t e st fun c st1 => if c = true then Q true st1 else u e st1 Q
def dNotT (t : TTd) : TTd := fun e st Q => t e st fun c st1 => Q (!c) st1
theorem pdw_and1 (ha : PDT X a tA) : PDW X (.BoolOp .And [a] pos) tA := pw_and1 ha
theorem pdw_or1 (ha : PDT X a tA) : PDW X (.BoolOp .Or [a] pos) tA := pw_or1 ha
theorem pdw_and (ha : PDT X a tA) (hb : PDW X (.BoolOp .And (b :: rest) pos) tB) : PDW X (.BoolOp .And (a :: b :: rest) pos) (dAndT tA tB) :=
  PW.imp (pw_and ha hb) fun σ H Q ⟨e, st, hid, Qd, re, S, h, k⟩ => ⟨e, st, hid, _, re, S, h, fun c H1 st1 F1 S1 h1 => by
    cases c with
    | true =>
      rw [if_pos rfl] at h1 ⊢
      exact ⟨e, st1, hid, Qd, re.mono F1 S.sr, S1, h1, k.mono F1⟩
    | false =>
      rw [if_neg Bool.false_ne_true] at h1 ⊢
      exact k false H1 st1 F1 S1 h1⟩
theorem pdw_or (ha : PDT X a tA) (hb : PDW X (.BoolOp .Or (b :: rest) pos) tB) : PDW X (.BoolOp .Or (a :: b :: rest) pos) (dOrT tA tB) :=
  PW.imp (pw_or ha hb) fun σ H Q ⟨e, st, hid, Qd, re, S, h, k⟩ => ⟨e, st, hid, _, re, S, h, fun c H1 st1 F1 S1 h1 => by
    cases c with
    | false =>
      rw [if_neg Bool.false_ne_true] at h1 ⊢
      exact ⟨e, st1, hid, Qd, re.mono F1 S.sr, S1, h1, k.mono F1⟩
    | true =>
      rw [if_pos rfl] at h1 ⊢
      exact k true H1 st1 F1 S1 h1⟩
theorem pdt_w (h : PDW X e tA) : PDT X e tA := h.pt
theorem pdt_not (ha : PDT X a tA) : PDT X (.UnaryOp .Not a pos) (dNotT tA) :=
  PT.imp (pt_not ha) fun σ H Q ⟨e, st, hid, Qd, re, S, h, k⟩ => ⟨e, st, hid, _, re, S, h, fun c H1 st1 F1 S1 h1 => k (!c) H1 st1 F1 S1 h1⟩
def dAnd (ta tb : TEd) : TEd := fun e st Q => ta e st (asB fun c st1 => if c = true then tb e st1 Q else Q (.d (.bool false)) st1)
def dOr (ta tb : TEd) : TEd := fun e st Q => ta e st (asB fun c st1 => if c = true then Q (.d (.bool true)) st1 else tb e st1 Q)
def dNot (ta : TEd) : TEd := fun e st Q => ta e st (asB fun c st1 => Q (.d (.bool (!c))) st1)
theorem pd_one {op} (h : PD X a ta) : PD X (.BoolOp op [a] pos) ta := pe_one h
theorem pd_and (ha : PD X a ta) (hb : PD X (.BoolOp .And (b :: rest) pos) tb) : PD X (.BoolOp .And (a :: b :: rest) pos) (dAnd ta tb) :=
  PE.imp (pe_and ha hb) fun σ H Q ⟨e, st, hid, Qd, re, S, h, k⟩ => ⟨e, st, hid, _, re, S, h, tst_go fun c H1 st1 F1 S1 h1 => by
    cases c with
    | true =>
      rw [if_pos rfl] at h1 ⊢
      exact ⟨e, st1, hid, Qd, re.mono F1 S.sr, S1, h1, k.mono F1⟩
    | false =>
      rw [if_neg Bool.false_ne_true] at h1 ⊢
      exact (k.mono F1).now S1 (.d (.bl false)) h1⟩
theorem pd_or (ha : PD X a ta) (hb : PD X (.BoolOp .Or (b :: rest) pos) tb) : PD X (.BoolOp .Or (a :: b :: rest) pos) (dOr ta tb) :=
  PE.imp (pe_or ha hb) fun σ H Q ⟨e, st, hid, Qd, re, S, h, k⟩ => ⟨e, st, hid, _, re, S, h, tst_go fun c H1 st1 F1 S1 h1 => by
    cases c with
    | false =>
      rw [if_neg Bool.false_ne_true] at h1 ⊢
      exact ⟨e, st1, hid, Qd, re.mono F1 S.sr, S1, h1, k.mono F1⟩
    | true =>
      rw [if_pos rfl] at h1 ⊢
      exact (k.mono F1).now S1 (.d (.bl true)) h1⟩
theorem pd_not (ha : PD X a ta) : PD X (.UnaryOp .Not a pos) (dNot ta) :=
  PE.imp (pe_not ha) fun σ H Q ⟨e, st, hid, Qd, re, S, h, k⟩ => ⟨e, st, hid, _, re, S, h, tst_go fun c H1 st1 F1 S1 h1 => (k.mono F1).now S1 (.d (.bl (!c))) h1⟩
def dIf (t : TTd) (ta tb : TEd) : TEd := fun e st Q => t e st fun c st1 => if c = true then ta e st1 Q else tb e st1 Q
theorem pd_if (hc : PDT X c tA) (ha : PD X a ta) (hb : PD X b tb) : PD X (.IfExp c a b pos) (dIf tA ta tb) :=
  PE.imp (pe_ifExp hc ha hb) fun σ H Q ⟨e, st, hid, Qd, re, S, h, k⟩ => ⟨e, st, hid, _, re, S, h, fun c H1 st1 F1 S1 h1 => by
    cases c with
    | true =>
      rw [if_pos rfl] at h1 ⊢
      exact ⟨e, st1, hid, Qd, re.mono F1 S.sr, S1, h1, k.mono F1⟩
    | false =>
      rw [if_neg Bool.false_ne_true] at h1 ⊢
      exact ⟨e, st1, hid, Qd, re.mono F1 S.sr, S1, h1, k.mono F1⟩⟩
/-- - i -/
def dNeg (ta : TEd) : TEd := fun e st Q => ta e st fun d st1 => match d with
  | .d (.int i) => Q (.d (.int (-i))) st1
  | _ => False
theorem pd_neg (ha : PD X a ta) : PD X (.UnaryOp .USub a pos) (dNeg ta) :=
  PE.imp (pe_un un_neg ha) fun σ H Q ⟨e, st, hid, Qd, re, S, h, k⟩ => ⟨e, st, hid, _, re, S, h, fun v H1 d st1 F1 S1 r h1 => by
    cases r with
    | own a => exact h1.elim
    | scr h f => exact h1.elim
    | d h =>
      cases h with
      | int i => exact ⟨i, rfl, (k.mono F1).now S1 (.d (.int (-i))) h1⟩
      | _ => exact h1.elim⟩
/-! ### ints -/
def rI2 (C : Int → Int → Prop) (g : Int → Int → PyData) : R2d := fun x y st Q => match x, y with
  | .d (.int i), .d (.int j) => C i j ∧ Q (.d (g i j)) st
  | _, _ => False
theorem rI2_at {K : PySem.W.Frag} {C : Int → Int → Prop} {g : Int → Int → PyData} {x y : V} {dx dy : D} {st hid : Sto} {H : Hp} {Q : Kd} (hx : DvD K (jn st hid) H x dx) (hy : DvD K (jn st hid) H y dy) (h : rI2 C g dx dy st Q) : ∃ i j, x = .int i ∧ y = .int j ∧ C i j ∧ Q (.d (g i j)) st := by
  cases hx with
  | own a => exact h.elim
  | scr h1 f => exact h.elim
  | d hx =>
    cases hy with
    | own a => cases hx <;> exact h.elim
    | scr h1 f => cases hx <;> exact h.elim
    | d hy =>
      cases hx with
      | int i =>
        cases hy with
        | int j => exact ⟨i, j, rfl, rfl, h.1, h.2⟩
        | _ => exact h.elim
      | _ => cases hy <;> exact h.elim
theorem up_int {f : Value → Value → Sem Value} {C : Int → Int → Prop} {g : Int → Int → Int} (h : OpR X f (rI C fun i j => .int (g i j))) : OpR X f (upR X.K (rI2 C fun i j => .int (g i j))) := OpR.imp h fun x y H Q ⟨dx, dy, st, hid, Qd, hx, hy, S, w, k⟩ => by
  obtain ⟨i, j, rfl, rfl, hc, q⟩ := rI2_at hx hy w
  exact ⟨i, j, rfl, rfl, hc, k.now S (.d (.int _)) q⟩
theorem up_int0 {f : Value → Value → Sem Value} {g : Int → Int → Int} (h : OpR X f (rI0 fun i j => .int (g i j))) : OpR X f (upR X.K (rI2 (fun _ _ => True) fun i j => .int (g i j))) := OpR.imp h fun x y H Q ⟨dx, dy, st, hid, Qd, hx, hy, S, w, k⟩ => by
  obtain ⟨i, j, rfl, rfl, hc, q⟩ := rI2_at hx hy w
  exact ⟨i, j, rfl, rfl, k.now S (.d (.int _)) q⟩
theorem up_cmp0 {f : Value → Value → Sem Value} {g : Int → Int → Bool} (h : OpR X f (rI0 fun i j => .bl (g i j))) : OpR X f (upR X.K (rI2 (fun _ _ => True) fun i j => .bool (g i j))) := OpR.imp h fun x y H Q ⟨dx, dy, st, hid, Qd, hx, hy, S, w, k⟩ => by
  obtain ⟨i, j, rfl, rfl, hc, q⟩ := rI2_at hx hy w
  exact ⟨i, j, rfl, rfl, k.now S (.d (.bl _)) q⟩
def rSubD : R2d := rI2 (fun _ _ => True) fun i j => .int (i - j)
def rMulD : R2d := rI2 CMulW fun i j => .int (i * j)
def rDivD : R2d := rI2 CDivW fun i j => .int (i / j)
def rModD : R2d := rI2 (fun _ j => 0 < j) fun i j => .int (i % j)
def rPowD : R2d := rI2 CPow fun i j => .int (i ^ j.toNat)
def rLtD : R2d := rI2 (fun _ _ => True) fun i j => .bool (decide (i < j))
def rLeD : R2d := rI2 (fun _ _ => True) fun i j => .bool (decide (i ≤ j))
def rGtD : R2d := rI2 (fun _ _ => True) fun i j => .bool (decide (j < i))
def rGeD : R2d := rI2 (fun _ _ => True) fun i j => .bool (decide (j ≤ i))
theorem o_sub : OpR X (binaryOp .Sub) (upR X.K rSubD) := up_int0 op_sub
theorem o_mul : OpR X (binaryOp .Mult) (upR X.K rMulD) := up_int op_mulW
theorem o_div : OpR X (binaryOp .FloorDiv) (upR X.K rDivD) := up_int op_fdivW
theorem o_mod : OpR X (binaryOp .Mod) (upR X.K rModD) := up_int op_mod
theorem o_pow : OpR X (binaryOp .Pow) (upR X.K rPowD) := up_int op_pow
theorem o_lt : OpR X (compareOp .Lt) (upR X.K rLtD) := up_cmp0 op_lt
theorem o_le : OpR X (compareOp .LtE) (upR X.K rLeD) := up_cmp0 op_le
theorem o_gt : OpR X (compareOp .Gt) (upR X.K rGtD) := up_cmp0 op_gt
theorem o_ge : OpR X (compareOp .GtE) (upR X.K rGeD) := up_cmp0 op_ge
end
end DL
namespace DL
open PySem PySem.Spec PyProof.Rows L2
/-! ### lists, read -/
def lstOf (d : D) (st : Sto) : Option (List D) := match d with
  | .d (.list xs) => some (xs.map D.d)
  | .own a => st a
  | .scr ns => some (ns.map fun n => .d (.int n))
  | _ => none
/-- .. such as a list display, an append may have made -/
def wlOf (d : D) (st : Sto) : Option (List D) := match d with
  | .d (.list xs) => some (xs.map D.d)
  | .own a => st a
  | _ => none
section
variable {K : PySem.W.Frag} {st hid : Sto} {H : Hp}
theorem ints_to : ∀ ns : List Int, DvsD K st H (ns.map V.int) (ns.map fun n => .d (.int n))
  | [] => .nil
  | n :: ns => .cons (.d (.int n)) (ints_to ns)
theorem wlOf_at {x : V} {d : D} {ds : List D} (r : DvD K (jn st hid) H x d) (S : Sx K st hid H) (e : wlOf d st = some ds) : ∃ a xs, x = .ref a ∧ H a = some (.lst xs) ∧ DvsD K (jn st hid) H xs ds := by
  cases r with
  | own a =>
    obtain ⟨xs, h1, h2⟩ := S.at_ (show st a = some ds from e)
    exact ⟨a, xs, rfl, h1, h2⟩
  | scr h f => cases e
  | d h =>
    cases h with
    | lst h f r =>
      cases (show some (_ : List D) = some ds from e)
      exact ⟨_, _, rfl, h, Dvs.to r⟩
    | _ => cases e
theorem lstOf_at {x : V} {d : D} {ds : List D} (r : DvD K (jn st hid) H x d) (S : Sx K st hid H) (e : lstOf d st = some ds) : ∃ a xs, x = .ref a ∧ SqL K H a xs ∧ DvsD K (jn st hid) H xs ds := by
  cases r with
  | own a =>
    obtain ⟨xs, h1, h2⟩ := S.at_ (show st a = some ds from e)
    exact ⟨a, xs, rfl, .inl (.inl h1), h2⟩
  | scr h f =>
    cases (show some (_ : List D) = some ds from e)
    exact ⟨_, _, rfl, h, ints_to _⟩
  | d h =>
    cases h with
    | lst h f r =>
      cases (show some (_ : List D) = some ds from e)
      exact ⟨_, _, rfl, .inl (.inl h), Dvs.to r⟩
    | _ => cases e
theorem tup_at {x : V} {xs : List PyData} (r : DvD K (jn st hid) H x (.d (.tuple xs))) : ∃ a vs, x = .ref a ∧ SqT K H a vs ∧ Dvs K (jn st hid) H vs xs := by
  cases r with
  | d h =>
    cases h with
    | tup h r => exact ⟨_, _, rfl, h, r⟩
theorem int_at {x : V} {i : Int} (r : DvD K (jn st hid) H x (.d (.int i))) : x = .int i := by
  cases r with
  | d h =>
    cases h with
    | int i => rfl
theorem str_at {x : V} {i : Str} (r : DvD K (jn st hid) H x (.d (.str i))) : x = .str i := by
  cases r with
  | d h =>
    cases h with
    | str i => rfl
theorem bl_at {x : V} {i : Bool} (r : DvD K (jn st hid) H x (.d (.bool i))) : x = .bl i := by
  cases r with
  | d h =>
    cases h with
    | bl i => rfl
theorem DvsD.append : ∀ {vs ws : List V} {xs ys : List D}, DvsD K st H vs xs → DvsD K st H ws ys → DvsD K st H (vs ++ ws) (xs ++ ys)
  | _, _, _, _, .nil, q => q
  | _, _, _, _, .cons h t, q => .cons h (DvsD.append t q)
theorem DvsD.drop : ∀ {vs : List V} {xs : List D} (n : Nat), DvsD K st H vs xs → DvsD K st H (vs.drop n) (xs.drop n)
  | _, _, 0, r => r
  | _, _, _ + 1, .nil => .nil
  | _, _, n + 1, .cons _ t => DvsD.drop n t
theorem DvsD.take : ∀ {vs : List V} {xs : List D} (n : Nat), DvsD K st H vs xs → DvsD K st H (vs.take n) (xs.take n)
  | _, _, 0, _ => .nil
  | _, _, _ + 1, .nil => .nil
  | _, _, n + 1, .cons h t => .cons h (DvsD.take n t)
theorem DvsD.reverse : ∀ {vs : List V} {xs : List D}, DvsD K st H vs xs → DvsD K st H vs.reverse xs.reverse
  | _, _, .nil => .nil
  | _, _, .cons h t => by
    rw [List.reverse_cons, List.reverse_cons]
    exact DvsD.snoc (DvsD.reverse t) h
theorem atI_pair {α β : Type} {xs : List α} {ys : List β} {i : Int} {y : β} (hl : xs.length = ys.length) (h : atI ys i = some y) : ∃ j : Nat, ys[j]? = some y ∧ ∀ x, xs[j]? = some x → atI xs i = some x := by
  unfold atI at h ⊢
  rw [hl]
  cases e : ixN ys.length i with
  | none =>
    rw [e] at h
    cases h
  | some j =>
    rw [e] at h
    exact ⟨j, h, fun x q => q⟩
theorem DvsD.at_ {vs : List V} {xs : List D} {i : Int} {d : D} (r : DvsD K st H vs xs) (h : atI xs i = some d) : ∃ v, atI vs i = some v ∧ DvD K st H v d := by
  obtain ⟨j, h1, h2⟩ := atI_pair (Paired.length r) h
  obtain ⟨v, h3, h4⟩ := r.get h1
  exact ⟨v, h2 v h3, h4⟩
theorem Dvs.at_ {vs : List V} {xs : List PyData} {i : Int} {d : PyData} (r : Dvs K st H vs xs) (h : atI xs i = some d) : ∃ v, atI vs i = some v ∧ Dv K st H v d := by
  obtain ⟨j, h1, h2⟩ := atI_pair r.length h
  obtain ⟨v, h3, h4⟩ := r.get h1
  exact ⟨v, h2 v h3, h4⟩
/-! data without dicts, as the library's == reads it -/
mutual
theorem Dv.dp : ∀ {v : V} {x : PyData}, Dv K st H v x → x.hasDict = false → Dp K H v x
  | _, _, .non, _ => .non
  | _, _, .bl b, _ => .bl b
  | _, _, .int i, _ => .int i
  | _, _, .str x, _ => .str x
  | _, _, .lst h f r, n => .lst (.inl (.inl h)) (Dvs.dp r (by simpa [PyData.hasDict] using n))
  | _, _, .tup h r, n => .tup h (Dvs.dp r (by simpa [PyData.hasDict] using n))
  | _, _, .dic h f r q, n => by simp [PyData.hasDict] at n
theorem Dvs.dp : ∀ {vs : List V} {xs : List PyData}, Dvs K st H vs xs → PyData.hasDictAll xs = false → DpAll K H vs xs
  | _, _, .nil, _ => .nil
  | _, _, .cons h t, n => by
    have n2 := (Bool.or_eq_false_iff.mp (show (PyData.hasDict _ || PyData.hasDictAll _) = false by simpa [PyData.hasDictAll] using n))
    exact .cons (Dv.dp h n2.1) (Dvs.dp t n2.2)
end
end
section
variable {X : Cx} {pos p p2 : Pos} {a b c e : Expr} {es rest : List Expr} {ta tb tc te : TEd} {t : TAd}
/-! ### + -/
def rAddD : R2d := fun x y st Q => match x, y with
  | .d (.int i), .d (.int j) => Q (.d (.int (i + j))) st
  | .d (.str i), .d (.str j) => i.length + j.length ≤ sizeLine ∧ Q (.d (.str (i ++ j))) st
  | .d (.tuple xs), .d (.tuple ys) => xs.length + ys.length ≤ sizeLine ∧ Q (.d (.tuple (xs ++ ys))) st
  | .d (.list xs), .d (.list ys) => xs.length + ys.length ≤ sizeLine ∧ Q (.d (.list (xs ++ ys))) st
  | x, y => ∃ xs ys, wlOf x st = some xs ∧ wlOf y st = some ys ∧ xs.length + ys.length ≤ sizeLine ∧ mkL (xs ++ ys) st Q
theorem o_add : OpR X (binaryOp .Add) (upR X.K rAddD) := fun pins s σ H x y v u Q I rx ry ⟨dx, dy, st, hid, Qd, hx, hy, S, w, k⟩ => by
  unfold rAddD at w
  split at w
  · cases int_at hx
    cases int_at hy
    exact op_add pins s σ H _ _ v u Q I rx ry ⟨_, _, rfl, rfl, k.now S (.d (.int _)) w⟩
  · cases str_at hx
    cases str_at hy
    exact op_add_str pins s σ H _ _ v u Q I rx ry ⟨_, _, rfl, rfl, w.1, k.now S (.d (.str _)) w.2⟩
  · rename_i xs ys
    obtain ⟨a, vs, rfl, h1, r1⟩ := tup_at hx
    obtain ⟨b, ws, rfl, h2, r2⟩ := tup_at hy
    have l1 := r1.length
    have l2 := r2.length
    refine op_catA pins s σ H _ _ v u Q I rx ry ⟨a, b, vs, ws, rfl, rfl, h1, h2, by omega, fun z => ?_, fun _ z => ?_, fun _ _ p hp => ?_⟩
    · subst z
      have e : xs = [] := List.length_eq_zero_iff.mp l1.symm
      subst e
      exact k.now S hy w.2
    · subst z
      have e : ys = [] := List.length_eq_zero_iff.mp l2.symm
      subst e
      rw [List.append_nil] at w
      exact k.now S hx w.2
    · exact k.new S hp (.d (.tup (.inl (.inl upd_same)) ((r1.append r2).mono (fr_new hp) S.sr))) w.2
  · rename_i xs ys
    obtain ⟨a, vs, rfl, h1, r1⟩ := wlOf_at hx S rfl
    obtain ⟨b, ws, rfl, h2, r2⟩ := wlOf_at hy S rfl
    have l1 := Paired.length r1
    have l2 := Paired.length r2
    rw [List.length_map] at l1 l2
    refine op_cat pins s σ H _ _ v u Q I rx ry ⟨a, b, vs, ws, rfl, rfl, h1, h2, by omega, fun p hp => mkL_go (.inl ⟨xs ++ ys, ?_, w.2⟩) S hp (r1.append r2) k⟩
    rw [← List.map_append]
    exact pures_map _
  · obtain ⟨xs, ys, e1, e2, hz, q⟩ := w
    obtain ⟨a, vs, rfl, h1, r1⟩ := wlOf_at hx S e1
    obtain ⟨b, ws, rfl, h2, r2⟩ := wlOf_at hy S e2
    have l1 := Paired.length r1
    have l2 := Paired.length r2
    exact op_cat pins s σ H _ _ v u Q I rx ry ⟨a, b, vs, ws, rfl, rfl, h1, h2, by omega, fun p hp => mkL_go q S hp (r1.append r2) k⟩
/-! ### == and != -/
def rEqV : R2d := fun x y st Q => match x, y with
  | .d (.int i), .d (.int j) => Q (.d (.bool (decide (i = j)))) st
  | .d (.str i), .d (.str j) => Q (.d (.bool (decide (i = j)))) st
  | .d i, .d j => SeqAt.shaped i = true ∧ SeqAt.shaped j = true ∧ Q (.d (.bool (PyData.eqv i j))) st
  | _, _ => False
def rNeV : R2d := fun x y st Q => match x, y with
  | .d (.int i), .d (.int j) => Q (.d (.bool (!decide (i = j)))) st
  | .d (.str i), .d (.str j) => Q (.d (.bool (!decide (i = j)))) st
  | .d i, .d j => SeqAt.shaped i = true ∧ SeqAt.shaped j = true ∧ Q (.d (.bool (!PyData.eqv i j))) st
  | _, _ => False
theorem noDict {d : PyData} (h : SeqAt.shaped d = true) : d.hasDict = false := PyData.hasDict_of_canLay d (SeqAt.canLay_of_shaped h)
theorem o_eq (hu : X.A.units + 64 < cLine) : OpR X (compareOp .Eq) (upR X.K rEqV) := fun pins s σ H x y v u Q I rx ry ⟨dx, dy, st, hid, Qd, hx, hy, S, w, k⟩ => by
  unfold rEqV at w
  split at w
  · cases int_at hx
    cases int_at hy
    refine op_eq pins s σ H _ _ v u Q I rx ry ⟨rfl, ?_⟩
    rw [dec_int, show ∀ i j : Int, (i == j) = decide (i = j) from fun i j => by rw [Bool.eq_iff_iff]; simp]
    exact k.now S (.d (.bl _)) w
  · cases str_at hx
    cases str_at hy
    refine op_eq pins s σ H _ _ v u Q I rx ry ⟨rfl, ?_⟩
    rw [dec_str, show ∀ i j : Str, (i == j) = decide (i = j) from fun i j => by rw [Bool.eq_iff_iff]; simp]
    exact k.now S (.d (.bl _)) w
  · cases hx with
    | d hx =>
      cases hy with
      | d hy => exact op_eqD hu pins s σ H _ _ v u Q I rx ry ⟨_, _, hx.dp (noDict w.1), hy.dp (noDict w.2.1), w.1, w.2.1, k.now S (.d (.bl _)) w.2.2⟩
  · exact w.elim
theorem o_ne (hu : X.A.units + 64 < cLine) : OpR X (compareOp .NotEq) (upR X.K rNeV) := fun pins s σ H x y v u Q I rx ry ⟨dx, dy, st, hid, Qd, hx, hy, S, w, k⟩ => by
  unfold rNeV at w
  split at w
  · cases int_at hx
    cases int_at hy
    refine op_ne pins s σ H _ _ v u Q I rx ry ⟨rfl, ?_⟩
    rw [dec_int, show ∀ i j : Int, (i == j) = decide (i = j) from fun i j => by rw [Bool.eq_iff_iff]; simp]
    exact k.now S (.d (.bl _)) w
  · cases str_at hx
    cases str_at hy
    refine op_ne pins s σ H _ _ v u Q I rx ry ⟨rfl, ?_⟩
    rw [dec_str, show ∀ i j : Str, (i == j) = decide (i = j) from fun i j => by rw [Bool.eq_iff_iff]; simp]
    exact k.now S (.d (.bl _)) w
  · cases hx with
    | d hx =>
      cases hy with
      | d hy => exact op_neD hu pins s σ H _ _ v u Q I rx ry ⟨_, _, hx.dp (noDict w.1), hy.dp (noDict w.2.1), w.1, w.2.1, k.now S (.d (.bl _)) w.2.2⟩
  · exact w.elim
/-! ### x[i], x[lo:hi], x[::-1] -/
def rIxD : R2d := fun x y st Q => match y with
  | .d (.int i) => match x with
    | .d (.tuple xs) => ∃ v, atI xs i = some v ∧ Q (.d v) st
    | .d (.str z) => z.length ≤ sizeLine ∧ ∃ n, atI z.cps.toList i = some n ∧ Q (.d (.str ⟨#[n]⟩)) st
    | x => ∃ ds v, lstOf x st = some ds ∧ atI ds i = some v ∧ Q v st
  | _ => False
theorem ix_imp : IxR X (upR X.K rIxD) := by
  intro value slice pins s σ H x y v u Q I rx ry ⟨dx, dy, st, hid, Qd, hx, hy, S, w, k⟩ hs
  unfold rIxD at w
  split at w
  · rename_i i
    cases int_at hy
    split at w
    · obtain ⟨d, e, q⟩ := w
      obtain ⟨a, vs, rfl, h1, r1⟩ := tup_at hx
      obtain ⟨z, h2, r2⟩ := r1.at_ e
      exact ix_tup value slice pins s σ H _ _ v u Q I rx ry ⟨a, vs, i, z, rfl, rfl, h1, h2, k.now S (.d r2) q⟩ hs
    · obtain ⟨hz, n, e, q⟩ := w
      cases str_at hx
      exact ix_str value slice pins s σ H _ _ v u Q I rx ry ⟨_, i, n, rfl, rfl, hz, e, k.now S (.d (.str _)) q⟩ hs
    · obtain ⟨ds, d, e1, e, q⟩ := w
      obtain ⟨a, vs, rfl, h1, r1⟩ := lstOf_at hx S e1
      obtain ⟨z, h2, r2⟩ := r1.at_ e
      exact ix_list value slice pins s σ H _ _ v u Q I rx ry ⟨a, vs, i, z, rfl, rfl, h1, h2, k.now S r2 q⟩ hs
  · exact w.elim
theorem pd_ix (ha : PD X a ta) (hb : PD X b tb) (hs : PlainIx b) : PD X (.Subscript a b pos) (dBin rIxD ta tb) := PE.imp (pe_ix ix_imp ha hb hs) fun _ _ _ => bin_imp
abbrev TOd := Ed → Sto → (Option Int → Sto → Prop) → Prop
abbrev GoO (K : PySem.W.Frag) (st hid : Sto) (H : Hp) (Qd : Option Int → Sto → Prop) (Q : Option Int → Hp → Prop) : Prop := ∀ b H' st', FrX st hid H st' H' → Sx K st' hid H' → Qd b st' → Q b H'
def upO (K : PySem.W.Frag) (t : TOd) : TO := fun σ H Q => ∃ e st hid Qd, RE K (jn st hid) H σ e ∧ Sx K st hid H ∧ t e st Qd ∧ GoO K st hid H Qd Q
abbrev PDO (X : Cx) (e : Option Expr) (t : TOd) : Prop := PO X e (upO X.K t)
theorem PO.imp {X : Cx} {e : Option Expr} {t t' : TO} (h : PO X e t) (i : ∀ σ H Q, t' σ H Q → t σ H Q) : PO X e t' := ⟨fun pins s σ H Q I w => h.run pins s σ H Q I (i σ H Q w)⟩
def dNoP : TOd := fun _ st Q => Q none st
def dPart (t : TEd) : TOd := fun e st Q => t e st fun d st1 => match d with
  | .d (.int i) => Q (some i) st1
  | _ => False
theorem pdo_none : PDO X none dNoP := PO.imp po_none fun σ H Q ⟨e, st, hid, Qd, re, S, h, k⟩ => k none H st (Fr.refl _ _) S h
theorem pdo_some (h : PD X e te) : PDO X (some e) (dPart te) := PO.imp (po_some h) fun σ H Q ⟨e, st, hid, Qd, re, S, h, k⟩ => ⟨e, st, hid, _, re, S, h, fun v H1 d st1 F1 S1 r q => by
  cases r with
  | own a => exact q.elim
  | scr h f => exact q.elim
  | d h =>
    cases h with
    | int i => exact ⟨i, rfl, k (some i) H1 st1 F1 S1 q⟩
    | _ => exact q.elim⟩
/-- the items of xs[lo:hi] -/
def cutP {α : Type} (xs : List α) (lo hi : Option Int) : List α := (xs.drop (HT.sIx xs.length 0 lo)).take (HT.sIx xs.length xs.length hi - HT.sIx xs.length 0 lo)
def rSlD (x : D) (lo hi : Option Int) (st : Sto) (Q : Kd) : Prop := match x with
  | .d (.tuple xs) => Q (.d (.tuple (cutP xs lo hi))) st
  | .d (.list xs) => Q (.d (.list (cutP xs lo hi))) st
  | .scr ns => Q (.d (.list ((cutP ns lo hi).map .int))) st
  | x => ∃ ds, lstOf x st = some ds ∧ mkL (cutP ds lo hi) st Q
theorem cutP_map {α β : Type} (f : α → β) (xs : List α) (lo hi : Option Int) : cutP (xs.map f) lo hi = (cutP xs lo hi).map f := by
  unfold cutP
  rw [List.length_map, List.map_take, List.map_drop]
def dSl (te : TEd) (tl th : TOd) : TEd := fun e st Q => te e st fun x st1 => tl e st1 fun l st2 => th e st2 fun u st3 => rSlD x l u st3 Q
theorem sl_imp : SlR X (fun x lo hi H Q => ∃ dx st hid Qd, DvD X.K (jn st hid) H x dx ∧ Sx X.K st hid H ∧ rSlD dx lo hi st Qd ∧ Go X.K st hid H Qd Q) := by
  intro pins s σ H x v vl vu lo hi sl Q I rx hs pl pu ⟨dx, st, hid, Qd, hx, S, w, k⟩
  unfold rSlD at w
  split at w
  · rename_i xs
    obtain ⟨a, vs, rfl, h1, r1⟩ := tup_at hx
    have l1 := r1.length
    refine sl_tupA pins s σ H _ v vl vu lo hi sl Q I rx hs pl pu ⟨a, vs, rfl, h1, fun z => ?_, fun _ p hp => ?_⟩
    · have e : cutP xs lo hi = xs := by
        unfold cutP
        rw [← l1, z.1, z.2, List.drop_zero, Nat.sub_zero, List.take_of_length_le (Nat.le_of_eq l1.symm)]
      rw [e] at w
      exact k.now S hx w
    · refine k.new S hp (.d (.tup (.inl (.inl upd_same)) ?_)) w
      unfold cutP cutV
      rw [l1]
      exact ((r1.drop _).take _).mono (fr_new hp) S.sr
  · rename_i xs
    obtain ⟨a, vs, rfl, h1, r1⟩ := lstOf_at hx S rfl
    have l1 := Paired.length r1
    refine sl_list pins s σ H _ v vl vu lo hi sl Q I rx hs pl pu ⟨a, vs, rfl, h1, fun p hp => mkL_go (ds := cutP (xs.map D.d) lo hi) (.inl ⟨cutP xs lo hi, by rw [cutP_map]; exact pures_map _, w⟩) S hp ?_ k⟩
    unfold cutP cutV
    rw [l1]
    exact (r1.drop _).take _
  · rename_i ns
    obtain ⟨a, vs, rfl, h1, r1⟩ := lstOf_at hx S rfl
    have l1 := Paired.length r1
    refine sl_list pins s σ H _ v vl vu lo hi sl Q I rx hs pl pu ⟨a, vs, rfl, h1, fun p hp => mkL_go (ds := cutP (ns.map fun n => .d (.int n)) lo hi) (.inl ⟨_, ?_, w⟩) S hp ?_ k⟩
    · rw [cutP_map, show (List.map (fun n => D.d (PyData.int n)) (cutP ns lo hi)) = ((cutP ns lo hi).map PyData.int).map D.d by rw [List.map_map]; rfl]
      exact pures_map _
    · unfold cutP cutV
      rw [l1]
      exact (r1.drop _).take _
  · obtain ⟨ds, e, q⟩ := w
    obtain ⟨a, vs, rfl, h1, r1⟩ := lstOf_at hx S e
    have l1 := Paired.length r1
    refine sl_list pins s σ H _ v vl vu lo hi sl Q I rx hs pl pu ⟨a, vs, rfl, h1, fun p hp => mkL_go q S hp ?_ k⟩
    unfold cutP cutV
    rw [l1]
    exact (r1.drop _).take _
theorem pd_sl {lo hi : Option Expr} {tl th : TOd} (he : PD X e te) (hl : PDO X lo tl) (hu : PDO X hi th) : PD X (.Subscript e (.Slice lo hi none p2) pos) (dSl te tl th) :=
  PE.imp (pe_slice sl_imp he hl hu) fun σ H Q ⟨e, st, hid, Qd, re, S, h, k⟩ => ⟨e, st, hid, _, re, S, h, fun v H1 d st1 F1 S1 r1 h1 => ⟨e, st1, hid, _, re.mono F1 S.sr, S1, h1, fun l H2 st2 F2 S2 h2 =>
    ⟨e, st2, hid, _, re.mono (Fr.trans F1 F2) S.sr, S2, h2, fun u H3 st3 F3 S3 h3 => ⟨d, st3, hid, Qd, r1.mono (Fr.trans F2 F3) S1.sr, S3, h3, k.mono (Fr.trans F1 (Fr.trans F2 F3))⟩⟩⟩⟩
end
/-! ### x[::-1] of a list or a tuple -/
section
variable {prog : Program} {w : World} {A : Around} {E : Value → Shared → Prop} {s : Shared}
theorem back_run (items : Array Value) : ((List.range items.size).filterMap fun (m : Nat) => items[(((items.size : Int) - 1) + (m : Int) * (-1)).toNat]?) = items.toList.reverse := by
  rw [← PySem.W.krv_all items, ← List.filterMap_reverse, ← PySem.W.krv_range, List.filterMap_map]
  have key : ∀ l : List Nat, (∀ m ∈ l, m < items.size) → l.filterMap (fun (m : Nat) => items[(((items.size : Int) - 1) + (m : Int) * (-1)).toNat]?) = l.filterMap ((fun x => items[x]?) ∘ fun k => items.size - 1 - k) := by
    intro l
    induction l with
    | nil => intro _; rfl
    | cons m l ih =>
      intro hl
      have h0 := hl m List.mem_cons_self
      have e : (((items.size : Int) - 1) + (m : Int) * (-1)).toNat = items.size - 1 - m := by omega
      rw [List.filterMap_cons, List.filterMap_cons, ih fun k hk => hl k (List.mem_cons_of_mem _ hk), e]
      rfl
  exact key _ fun m hm => List.mem_range.mp hm
theorem back_adjust (n : Int) : Builtin.Slice.sliceAdjust none none (-1) n = (n - 1, -1) := by
  unfold Builtin.Slice.sliceAdjust
  rfl
theorem back_places (n : Nat) : Builtin.Slice.slicePlaces ((n : Int) - 1) (-1) (-1) = n := by
  unfold Builtin.Slice.slicePlaces
  have e : (-(-1) : Int) = 1 := by decide
  rw [if_neg (by omega), e, Int.ediv_one]
  split <;> omega
theorem back_applied {sl : Addr} {u : Tok} {n : Nat} {Q : Int × Int × Nat → Shared → Prop} (hs : s.heap.IsSliceOf sl .none .none (.int (-1) u)) (h : Q ((n : Int) - 1, -1, n) s) :
    wpAny (model prog w) A (Builtin.Slice.sliceApplied (.ref sl) (pure (n : Int))) Q E s := by
  obtain ⟨os, hos, hcs, hds⟩ := id hs
  unfold Builtin.Slice.sliceApplied Builtin.Slice.sliceFields
  refine wpAny_bind (wpAny_bind (wpAny_field hos hds (x := .none) rfl (wpAny_bind (wpAny_field hos hds (x := .none) rfl (wpAny_bind (wpAny_field hos hds (x := .int (-1) u) rfl (wpAny_pure ?_)))))))
  refine wpAny_bind (HT.slicePart_ (.int (-1) u) ?_)
  show wpAny _ _ (if ((-1 : Int) == 0) = true then _ else _) _ _ s
  rw [if_neg (by decide)]
  refine wpAny_bind (HT.slicePart_ .none (wpAny_bind (HT.slicePart_ .none (wpAny_bind (wpAny_pure ?_)))))
  show wpAny _ _ (match Builtin.Slice.sliceAdjust none none (-1) (n : Int) with | (lo, hi) => pure (lo, (-1 : Int), Builtin.Slice.slicePlaces lo hi (-1))) _ _ s
  rw [back_adjust]
  show wpAny _ _ (pure ((n : Int) - 1, (-1 : Int), Builtin.Slice.slicePlaces ((n : Int) - 1) (-1) (-1))) _ _ s
  rw [back_places]
  exact wpAny_pure h
theorem back_tuple {t sl : Addr} {items : Array Value} {u : Tok} {Q : Value → Shared → Prop} (ht : IsTup s.heap t items) (hs : s.heap.IsSliceOf sl .none .none (.int (-1) u))
    (h : Q (.ref s.heap.objs.size) { s with heap := s.heap.push { cls := .type "tuple", data := .seq items.toList.reverse.toArray } }) (hsz : items.size ≤ sizeLine) :
    wpAny (model prog w) A (getItem (.ref t) (.ref sl)) Q E s := by
  have hok : sizeOk (.seq items.toList.reverse.toArray) := by
    show items.toList.reverse.toArray.size ≤ sizeLine
    rw [List.size_toArray, List.length_reverse, Array.length_toList]
    exact hsz
  obtain ⟨os, hos, hcs, hds⟩ := id hs
  have hTs : s.TypeIs (.ref sl) "slice" := ⟨os, hos, hcs⟩
  unfold getItem
  try with_reducible refine wpAny_holding ?_
  first | refine wpAny_bind (wpAny_pure ?_) | skip
  refine wpAny_bind (wpAny_sequenceKey ht.typeIs (by decide) ?_)
  refine wpAny_bind (wpAny_callSpecial?_slot (name := Str.ofString "__getitem__") ht.typeIs PyProof.Rows.slot_tuple_getitem (wpAny_call_entry PyProof.Rows.slot_tuple_getitem ht.typeIs entry_tuple_getitem ?_ (args_tuple_getitem _ _)))
  show wpAny _ _ (Builtin.Tuple.tupleItemsOf (.ref t) >>= _) _ _ s
  refine wpAny_bind (tupleItemsOf_ ht (wpAny_bind (wpAny_typeOf hTs ?_)))
  rw [if_pos (by decide)]
  refine wpAny_bind (back_applied hs ?_)
  show wpAny _ _ (if ((((items.size : Int) - 1) == 0 && (-1 : Int) == 1) && items.size == items.size) = true then _ else _) _ _ s
  rw [if_neg (by rw [show ((-1 : Int) == 1) = false by decide, Bool.and_false, Bool.false_and]; decide), back_run]
  first
    | exact wpAny_bind (m := Builtin.Tuple.tupleExact _) (wpAny_newObj_type (wpAny_pure ⟨_, rfl, wpAny_pure h⟩) hok)
    | exact wpAny_bind (m := Builtin.Tuple.tupleExact _) (wpAny_newObj_type (wpAny_bind (wpAny_pure (wpAny_pure ⟨_, rfl, wpAny_pure h⟩))) hok)
    | exact wpAny_bind (wpAny_bind (m := Builtin.Tuple.tupleExact _) (wpAny_newObj_type (wpAny_pure (wpAny_pure ⟨_, rfl, wpAny_pure h⟩)) hok))
    | exact wpAny_bind (wpAny_bind (m := Builtin.Tuple.tupleExact _) (wpAny_newObj_type (wpAny_pure ⟨_, rfl, wpAny_pure h⟩) hok))
end
section
variable {X : Cx} {pos p p2 : Pos} {a b c e : Expr} {es rest : List Expr} {ta tb tc te : TEd} {t : TAd}
def dRev (te : TEd) : TEd := fun e st Q => te e st fun x st1 => match x with
  | .d (.tuple xs) => Q (.d (.tuple xs.reverse)) st1
  | x => ∃ ds, lstOf x st1 = some ds ∧ mkL ds.reverse st1 Q
theorem pd_rev {k : Nat} {p1 p2 p3 : Pos} (he : PD X e te) : PD X (.Subscript e (.Slice none none (some (.UnaryOp .USub (.Constant (.int 1) k p1) p2)) p3) pos) (dRev te) := by
  refine ⟨fun pins s σ H Q I ⟨en, st, hid, Qd, re, S, h, kk⟩ => ?_⟩
  refine Subscript_ (thn (he.run pins s σ H (fun x H1 => ∃ d st1, FrX st hid H st1 H1 ∧ Sx X.K st1 hid H1 ∧ DvD X.K (jn st1 hid) H1 x d ∧ (match d with
    | .d (.tuple xs) => Qd (.d (.tuple xs.reverse)) st1
    | x => ∃ ds, lstOf x st1 = some ds ∧ mkL ds.reverse st1 Qd)) I ⟨en, st, hid, _, re, S, h, fun v H' d st' F S r q => ⟨d, st', F, S, r, q⟩⟩) fun v s1 ⟨x, H1, I1, r1, d, st1, F1, S1, r, q1⟩ => ?_)
  have hst : PO X (some (.UnaryOp .USub (.Constant (.int 1) k p1) p2)) (tPart (tUn (rU fun i => .int (-i)) (tC (.int 1)))) := po_some (pe_un un_neg pe_int)
  refine wpAny_Slice (thn (po_none.run pins s1 σ H1 (fun o H2 => o = none ∧ H2 = H1) I1 ⟨rfl, rfl⟩) fun vl s2 ⟨l, H2, I2, pl, el, e2⟩ => ?_)
  subst el e2
  refine thn (po_none.run pins s2 σ H2 (fun o H3 => o = none ∧ H3 = H2) I2 ⟨rfl, rfl⟩) fun vu s3 ⟨u, H3, I3, pu, eu, e3⟩ => ?_
  subst eu e3
  refine thn (hst.run pins s3 σ H3 (fun o H4 => o = some (-1) ∧ H4 = H3) I3 ⟨1, rfl, -1, rfl, rfl, rfl⟩) fun vs s4 ⟨o, H4, I4, ps, eo, e4⟩ => ?_
  subst eo e4
  have I5 : Inv X pins σ H4 { s4 with heap := s4.heap.push { cls := .type "slice", data := .fields #[vl, vu, vs] } } := I4.kept (t' := s4.toks) fun b ob q => Heap.get?_push_of_some _ q
  cases pl
  cases pu
  rcases ps with _ | ⟨_, tk⟩
  split at q1
  · rename_i xs
    obtain ⟨a, ws, rfl, h1, r2⟩ := tup_at r
    cases r1
    obtain ⟨its, rv, ht, hz⟩ := I5.tuple h1
    have hlen := rv.length
    show wpAny (model X.prog X.w) X.A (subscriptTail e (.Slice none none (some (.UnaryOp .USub (.Constant (.int 1) k p1) p2)) p3) (.ref a) (.ref s4.heap.objs.size)) (EP X pins σ Q) X.xe { s4 with heap := s4.heap.push { cls := .type "slice", data := .fields #[.none, .none, .int (-1) tk] } }
    refine tail_any (ops := [.ref a, .ref s4.heap.objs.size]) ht.typeIs (PyProof.Rows.slot_tuple_getitem.lookup) ?_ (by with_unfolding_all rfl)
    refine back_tuple ht (Heap.IsSliceOf.new _ .none .none (.int (-1) tk)) ?_ (by rw [List.size_toArray]; omega)
    have hn := I5.hok.fresh (Nat.le_refl _)
    refine ⟨.ref _, _, I5.laid (t' := s4.toks) (o := .tup ws.reverse) (fun b ob q => Heap.get?_push_of_some _ q) (Nat.le_refl _) ?_, rfl, (Go.mono kk F1).new S1 hn (.d (.tup (.inl (.inl upd_same)) (Dvs.of ?_))) q1⟩
    · exact ⟨by rw [List.length_reverse]; exact hz, _, rv.reverse, IsTup.new _ _⟩
    · rw [List.map_reverse]
      exact ((Dvs.to r2).reverse).mono (fr_new hn) S1.sr
  · obtain ⟨ds, e1, q⟩ := q1
    obtain ⟨a, ws, rfl, h1, r2⟩ := lstOf_at r S1 e1
    cases r1
    obtain ⟨its, rv, ht, hz⟩ := I5.list h1
    have hlen := rv.length
    show wpAny (model X.prog X.w) X.A (subscriptTail e (.Slice none none (some (.UnaryOp .USub (.Constant (.int 1) k p1) p2)) p3) (.ref a) (.ref s4.heap.objs.size)) (EP X pins σ Q) X.xe { s4 with heap := s4.heap.push { cls := .type "slice", data := .fields #[.none, .none, .int (-1) tk] } }
    refine tail_any (ops := [.ref a, .ref s4.heap.objs.size]) ht.isList.typeIs (PySem.slot_list_getitem.lookup) ?_ (by with_unfolding_all rfl)
    refine wpAny_getItem_list_slice ht.isList (Heap.IsSliceOf.new _ .none .none (.int (-1) tk)) .none .none (.int (-1) tk) (by decide) ?_ (by rw [List.size_toArray]; omega)
    rw [PySem.W.krv_pick]
    have hn := I5.hok.fresh (Nat.le_refl _)
    refine ⟨.ref _, _, I5.laid (t' := s4.toks) (o := .lst ws.reverse) (fun b ob q => Heap.get?_push_of_some _ q) (Nat.le_refl _) ?_, rfl, mkL_go q S1 hn r2.reverse (Go.mono kk F1)⟩
    exact ⟨by rw [List.length_reverse]; exact hz, _, 0, rv.reverse, Heap.get?_push_size _ rfl⟩
end
end DL
namespace DL
open PySem PySem.Spec PyProof.Rows L2
/-! ### calls of what is built in -/
/-- 2 ^ 9000 -/
def big9 : Nat := 2 ^ 9000
abbrev RCd := List D → Sto → Kd → Prop
def upC (K : PySem.W.Frag) (r : RCd) : List V → Hp → VK → Prop := fun vs H Q => ∃ ds st hid Qd, DvsD K (jn st hid) H vs ds ∧ Sx K st hid H ∧ r ds st Qd ∧ Go K st hid H Qd Q
def dCall (r : RCd) (t : TAd) : TEd := fun e st Q => t e st fun ds st1 => r ds st1 Q
theorem CallR.imp {X : Cx} {f : Value} {r r' : List V → Hp → VK → Prop} (h : CallR X f r) (i : ∀ xs H Q, r' xs H Q → r xs H Q) : CallR X f r' := fun pins s σ H xs us Q I rx q => h pins s σ H xs us Q I rx (i xs H Q q)
section
variable {X : Cx} {x : Str} {id T : String} {pos p p2 : Pos} {a b c e : Expr} {es rest : List Expr} {ta tb tc te : TEd} {t : TAd} {r : RCd}
theorem call_imp {K : PySem.W.Frag} {σ : L2.St} {H : Hp} {Q : VK} (w : up K (dCall r t) σ H Q) : tCB (upC K r) (upA K t) σ H Q := by
  obtain ⟨e, st, hid, Qd, re, S, h, k⟩ := w
  exact ⟨e, st, hid, _, re, S, h, fun vs H1 ds st1 F1 S1 r1 h1 => ⟨ds, st1, hid, Qd, r1, S1, h1, k.mono F1⟩⟩
theorem pd_callB (hc : CallR X (.builtin id) (upC X.K r)) (hg : Gl X x) (hm : X.mg x = none) (hv : bootBuiltins x = some (.builtin id)) (ha : PDA X (e :: es) t) (hn : x ≠ "__name__" := by decide) (hdb : (x == ("__debug__" : Str)) = false := by decide)
    (he : starEach (e :: es) X.env = (false, eval e X.env) :: starEach es X.env := by rfl) (hpl : (backTo pos (starEach es X.env)).any (·.1) = false := by rfl) : PD X (.Call (.Name x p) (e :: es) [] pos) (dCall r t) :=
  PE.imp (pe_callB hc hg hm hv ha hn hdb he hpl) fun _ _ _ => call_imp
theorem pd_callTy (hc : CallR X (.type T) (upC X.K r)) (hg : Gl X x) (hm : X.mg x = none) (hv : bootBuiltins x = some (.type T)) (ha : PDA X (e :: es) t) (hn : x ≠ "__name__" := by decide) (hdb : (x == ("__debug__" : Str)) = false := by decide)
    (he : starEach (e :: es) X.env = (false, eval e X.env) :: starEach es X.env := by rfl) (hpl : (backTo pos (starEach es X.env)).any (·.1) = false := by rfl) : PD X (.Call (.Name x p) (e :: es) [] pos) (dCall r t) :=
  PE.imp (pe_callTy hc hg hm hv ha hn hdb he hpl) fun _ _ _ => call_imp
theorem pd_callM (hc : CallR X (.builtin id) (upC X.K r)) (hg : Gl X x) (hm : X.mg x = some (.builtin id)) (ha : PDA X (e :: es) t) (hdb : (x == ("__debug__" : Str)) = false := by decide)
    (he : starEach (e :: es) X.env = (false, eval e X.env) :: starEach es X.env := by rfl) (hpl : (backTo pos (starEach es X.env)).any (·.1) = false := by rfl) : PD X (.Call (.Name x p) (e :: es) [] pos) (dCall r t) :=
  PE.imp (pe_callBfun hc hg hm ha hdb he hpl) fun _ _ _ => call_imp
theorem DvsD.one {K : PySem.W.Frag} {st : Sto} {H : Hp} {vs : List V} {d : D} (r : DvsD K st H vs [d]) : ∃ v, vs = [v] ∧ DvD K st H v d := by
  cases r with
  | cons h t =>
    cases t
    exact ⟨_, rfl, h⟩
theorem DvsD.two {K : PySem.W.Frag} {st : Sto} {H : Hp} {vs : List V} {d d' : D} (r : DvsD K st H vs [d, d']) : ∃ v v', vs = [v, v'] ∧ DvD K st H v d ∧ DvD K st H v' d' := by
  cases r with
  | cons h t =>
    cases t with
    | cons h' t' =>
      cases t'
      exact ⟨_, _, rfl, h, h'⟩
/-- of one int -/
def rC1 (C : Int → Prop) (g : Int → PyData) : RCd := fun ds st Q => match ds with
  | [.d (.int i)] => C i ∧ Q (.d (g i)) st
  | _ => False
def rC2 (C : Int → Int → Prop) (g : Int → Int → PyData) : RCd := fun ds st Q => match ds with
  | [.d (.int i), .d (.int j)] => C i j ∧ Q (.d (g i j)) st
  | _ => False
theorem rC1_at {K : PySem.W.Frag} {C : Int → Prop} {g : Int → PyData} {vs : List V} {ds : List D} {st hid : Sto} {H : Hp} {Q : Kd} (r : DvsD K (jn st hid) H vs ds) (h : rC1 C g ds st Q) : ∃ i, vs = [.int i] ∧ C i ∧ Q (.d (g i)) st := by
  unfold rC1 at h
  split at h
  · obtain ⟨v, rfl, r1⟩ := r.one
    cases int_at r1
    exact ⟨_, rfl, h.1, h.2⟩
  · exact h.elim
theorem rC2_at {K : PySem.W.Frag} {C : Int → Int → Prop} {g : Int → Int → PyData} {vs : List V} {ds : List D} {st hid : Sto} {H : Hp} {Q : Kd} (r : DvsD K (jn st hid) H vs ds) (h : rC2 C g ds st Q) : ∃ i j, vs = [.int i, .int j] ∧ C i j ∧ Q (.d (g i j)) st := by
  unfold rC2 at h
  split at h
  · obtain ⟨v, v', rfl, r1, r2⟩ := r.two
    cases int_at r1
    cases int_at r2
    exact ⟨_, _, rfl, h.1, h.2⟩
  · exact h.elim
def cAbs : RCd := rC1 (fun _ => True) fun i => .int (if i < 0 then -i else i)
def cInt : RCd := rC1 (fun _ => True) fun i => .int i
def cStrI : RCd := rC1 (fun i => i.natAbs.log2 < 1920) fun i => .str (toString i)
def cDivmod : RCd := rC2 CDivP fun i j => .tuple [.int (i / j), .int (i % j)]
def cMin : RCd := rC2 (fun _ _ => True) fun i j => .int (if j < i then j else i)
def cMax : RCd := rC2 (fun _ _ => True) fun i j => .int (if j > i then j else i)
def cGcd : RCd := rC2 (fun _ _ => True) fun i j => .int ((Nat.gcd i.natAbs j.natAbs : Nat) : Int)
def cLcm : RCd := rC2 (fun i j => i.natAbs < big9 ∧ j.natAbs < big9) fun i j => .int ((Nat.lcm i.natAbs j.natAbs : Nat) : Int)
theorem c_abs : CallR X (.builtin "abs") (upC X.K cAbs) := CallR.imp call_abs fun vs H Q ⟨ds, st, hid, Qd, r, S, w, k⟩ => by
  obtain ⟨i, rfl, _, q⟩ := rC1_at r w
  exact ⟨i, rfl, k.now S (.d (.int _)) q⟩
theorem c_int : CallR X (.type "int") (upC X.K cInt) := CallR.imp call_int1 fun vs H Q ⟨ds, st, hid, Qd, r, S, w, k⟩ => by
  obtain ⟨i, rfl, _, q⟩ := rC1_at r w
  exact .inl ⟨i, rfl, k.now S (.d (.int _)) q⟩
theorem c_str : CallR X (.type "str") (upC X.K cStrI) := CallR.imp call_str_int fun vs H Q ⟨ds, st, hid, Qd, r, S, w, k⟩ => by
  obtain ⟨i, rfl, h, q⟩ := rC1_at r w
  exact ⟨i, rfl, h, k.now S (.d (.str _)) q⟩
theorem c_min (hc : X.calm = true) : CallR X (.builtin "min") (upC X.K cMin) := CallR.imp (call_min2 hc) fun vs H Q ⟨ds, st, hid, Qd, r, S, w, k⟩ => by
  obtain ⟨i, j, rfl, _, q⟩ := rC2_at r w
  exact ⟨i, j, rfl, k.now S (.d (.int _)) q⟩
theorem c_max (hc : X.calm = true) : CallR X (.builtin "max") (upC X.K cMax) := CallR.imp (call_max2 hc) fun vs H Q ⟨ds, st, hid, Qd, r, S, w, k⟩ => by
  obtain ⟨i, j, rfl, _, q⟩ := rC2_at r w
  exact ⟨i, j, rfl, k.now S (.d (.int _)) q⟩
theorem c_gcd : CallR X (.builtin "math.gcd") (upC X.K cGcd) := CallR.imp cr_gcd fun vs H Q ⟨ds, st, hid, Qd, r, S, w, k⟩ => by
  obtain ⟨i, j, rfl, _, q⟩ := rC2_at r w
  exact ⟨i, j, rfl, k.now S (.d (.int _)) q⟩
theorem c_divmod : CallR X (.builtin "divmod") (upC X.K cDivmod) := CallR.imp call_divmodW fun vs H Q ⟨ds, st, hid, Qd, r, S, w, k⟩ => by
  obtain ⟨i, j, rfl, h, q⟩ := rC2_at r w
  exact ⟨i, j, rfl, h, fun p hp => k.new S hp (.d (.tup (.inl (.inl upd_same)) (.cons (.int _) (.cons (.int _) .nil)))) q⟩
theorem big_log {n : Nat} (h : n < big9) : ¬ n.log2 / 30 + 1 > 450 := by
  unfold big9 at h
  have := PySem.W.mg_log (k := 8999) h
  omega
theorem c_lcm : CallR X (.builtin "math.lcm") (upC X.K cLcm) := fun pins s σ H vs us Q I rx ⟨ds, st, hid, Qd, r, S, w, k⟩ => by
  obtain ⟨i, j, rfl, ⟨hi, hj⟩, q⟩ := rC2_at r w
  obtain ⟨t, u, rfl⟩ := Vals.int2 rx
  have one : Nat.lcm 1 i.natAbs = i.natAbs := PySem.W.mc_lcm_one _
  have p1 : (1 : Nat) < big9 := by
    unfold big9
    exact Nat.one_lt_two_pow (by decide)
  have hm : max 1 i.natAbs < big9 := Nat.max_lt.mpr ⟨p1, hi⟩
  have hm2 : max i.natAbs j.natAbs < big9 := Nat.max_lt.mpr ⟨hi, hj⟩
  have hl : (i.natAbs.lcm j.natAbs).log2 < bitsLine := PySem.W.mc_size (k := 300) (Nat.le_trans (PySem.W.mc_lcm_le _ _) (by
    have h1 : i.natAbs * j.natAbs ≤ big9 * big9 := Nat.mul_le_mul (Nat.le_of_lt hi) (Nat.le_of_lt hj)
    unfold big9 at h1
    rw [← Nat.pow_add] at h1
    exact Nat.le_trans h1 (Nat.pow_le_pow_right (by decide) (by decide)))) (by decide)
  have g := PySem.W.mg_run_lcm i t j u (big_log hm) (big_log hm2) (by rw [one]; exact hl)
  rw [one] at g
  exact PySem.call_function_meets PySem.W.MGF.kind_lcm PySem.W.MGF.plain_lcm PySem.W.MGF.entry_lcm (PySem.W.MGF.args_lcm _ _) g.meets ⟨.int _, H, I.tok _, ⟨_, rfl⟩, k.now S (.d (.int _)) q⟩
def cLen : RCd := fun ds st Q => match ds with
  | [.d (.tuple xs)] => Q (.d (.int xs.length)) st
  | [.d (.str z)] => z.length ≤ sizeLine ∧ Q (.d (.int z.length)) st
  | [x] => ∃ ds, lstOf x st = some ds ∧ Q (.d (.int ds.length)) st
  | _ => False
theorem c_len : CallR X (.builtin "len") (upC X.K cLen) := fun pins s σ H vs us Q I rx ⟨ds, st, hid, Qd, r, S, w, k⟩ => by
  unfold cLen at w
  split at w
  · obtain ⟨v, rfl, r1⟩ := r.one
    obtain ⟨a, ws, rfl, h1, r2⟩ := tup_at r1
    rw [← r2.length] at w
    exact call_len_seq pins s σ H _ us Q I rx ⟨a, ws, rfl, .inr h1, k.now S (.d (.int _)) w⟩
  · obtain ⟨v, rfl, r1⟩ := r.one
    cases str_at r1
    exact call_len_str pins s σ H _ us Q I rx ⟨_, rfl, w.1, k.now S (.d (.int _)) w.2⟩
  · obtain ⟨v, rfl, r1⟩ := r.one
    obtain ⟨ds, e, q⟩ := w
    obtain ⟨a, ws, rfl, h1, r2⟩ := lstOf_at r1 S e
    rw [← Paired.length r2] at q
    exact call_len_seq pins s σ H _ us Q I rx ⟨a, ws, rfl, .inl h1, k.now S (.d (.int _)) q⟩
  · exact w.elim
theorem bools_at {K : PySem.W.Frag} {st : Sto} {H : Hp} : ∀ {vs : List V} {bs : List Bool}, DvsD K st H vs (bs.map fun b => .d (.bool b)) → vs = bs.map V.bl
  | [], [], _ => rfl
  | _ :: _, b :: bs, .cons (.d h) t => by
    cases h
    rw [bools_at t]
    rfl
def cAll : RCd := fun ds st Q => match ds with
  | [x] => ∃ bs : List Bool, lstOf x st = some (bs.map fun b => .d (.bool b)) ∧ Q (.d (.bool (bs.all _root_.id))) st
  | _ => False
theorem c_all (hc : X.calm = true) : CallR X (.builtin "all") (upC X.K cAll) := CallR.imp (cr_all hc) fun vs H Q ⟨ds, st, hid, Qd, r, S, w, k⟩ => by
  unfold cAll at w
  split at w
  · obtain ⟨v, rfl, r1⟩ := r.one
    obtain ⟨bs, e, q⟩ := w
    obtain ⟨a, ws, rfl, h1, r2⟩ := lstOf_at r1 S e
    rw [bools_at r2] at h1
    exact ⟨a, bs, rfl, h1, k.now S (.d (.bl _)) q⟩
  · exact w.elim
/-- list(x) -/
def cList : RCd := fun ds st Q => match ds with
  | [.d (.tuple xs)] => mkL (xs.map D.d) st Q
  | [x] => ∃ ds, lstOf x st = some ds ∧ mkL ds st Q
  | _ => False
theorem c_list : CallR X (.type "list") (upC X.K cList) := CallR.imp call_list_of fun vs H Q ⟨ds, st, hid, Qd, r, S, w, k⟩ => by
  unfold cList at w
  split at w
  · obtain ⟨v, rfl, r1⟩ := r.one
    obtain ⟨a, ws, rfl, h1, r2⟩ := tup_at r1
    exact ⟨a, ws, rfl, .inr h1, fun l hl => mkL_go w S hl (Dvs.to r2) k⟩
  · obtain ⟨v, rfl, r1⟩ := r.one
    obtain ⟨ds, e, q⟩ := w
    obtain ⟨a, ws, rfl, h1, r2⟩ := lstOf_at r1 S e
    exact ⟨a, ws, rfl, .inl h1, fun l hl => mkL_go q S hl r2 k⟩
  · exact w.elim
/-- .. as a value -/
def cListV : RCd := fun ds st Q => match ds with
  | [.d (.tuple xs)] => Q (.d (.list xs)) st
  | [.d (.list xs)] => Q (.d (.list xs)) st
  | [x] => ∃ xs : List PyData, lstOf x st = some (xs.map D.d) ∧ Q (.d (.list xs)) st
  | _ => False
theorem c_listV : CallR X (.type "list") (upC X.K cListV) := CallR.imp c_list fun vs H Q ⟨ds, st, hid, Qd, r, S, w, k⟩ => by
  refine ⟨ds, st, hid, Qd, r, S, ?_, k⟩
  unfold cListV at w
  split at w
  · exact .inl ⟨_, pures_map _, w⟩
  · exact ⟨_, rfl, .inl ⟨_, pures_map _, w⟩⟩
  · rename_i x n1 n2
    obtain ⟨xs, e, q⟩ := w
    unfold cList
    split
    · rename_i h
      cases h
      exact absurd rfl (n1 _)
    · rename_i h
      cases h
      exact ⟨_, e, .inl ⟨_, pures_map _, q⟩⟩
    · rename_i n4
      exact absurd rfl (n4 x)
  · exact w.elim
/-- tuple(x) -/
def cTuple : RCd := fun ds st Q => match ds with
  | [.d (.tuple xs)] => Q (.d (.tuple xs)) st
  | [x] => ∃ xs : List PyData, lstOf x st = some (xs.map D.d) ∧ Q (.d (.tuple xs)) st
  | _ => False
theorem c_tuple : CallR X (.type "tuple") (upC X.K cTuple) := CallR.imp call_tuple_of fun vs H Q ⟨ds, st, hid, Qd, r, S, w, k⟩ => by
  unfold cTuple at w
  split at w
  · obtain ⟨v, rfl, r1⟩ := r.one
    obtain ⟨a, ws, rfl, h1, r2⟩ := tup_at r1
    exact ⟨a, ws, rfl, .inr ⟨h1, k.now S r1 w⟩⟩
  · obtain ⟨v, rfl, r1⟩ := r.one
    obtain ⟨xs, e, q⟩ := w
    obtain ⟨a, ws, rfl, h1, r2⟩ := lstOf_at r1 S e
    exact ⟨a, ws, rfl, .inl ⟨h1, fun l hl => k.new S hl (.d (.tup (.inl (.inl upd_same)) ((Dvs.of r2).mono (fr_new hl) S.sr))) q⟩⟩
  · exact w.elim
/-- repr(x) -/
def cRepr : RCd := fun ds st Q => match ds with
  | [.d x] => x.hasDict = false ∧ x.showable = true ∧ x.shown.length ≤ sizeLine ∧ x.depth ≤ 64 ∧ Q (.d (.str x.shown)) st
  | _ => False
theorem c_repr (hG : X.A.guards = some []) (hu : X.A.units + 65 < cLine) : CallR X (.builtin "repr") (upC X.K cRepr) := fun pins s σ H vs us Q I rx ⟨ds, st, hid, Qd, r, S, w, k⟩ => by
  unfold cRepr at w
  split at w
  · rename_i x
    obtain ⟨v, rfl, r1⟩ := r.one
    obtain ⟨h1, h2, h3, h4, q⟩ := w
    cases r1 with
    | d r1 =>
      obtain ⟨u, rfl, ru⟩ := vals1 rx
      have fin : ∀ {h' : Heap} {uu : Tok} {tk : Nat}, (∀ b o, s.heap.get? b = some o → h'.get? b = some o) → EP X pins σ Q (.str x.shown uu) { s with heap := h', toks := tk } := fun {h' uu tk} kp => ⟨.str _, H, I.kept kp, ⟨_, rfl⟩, k.now S (.d (.str _)) q⟩
      cases r1 with
      | non =>
        cases ru
        exact PySem.P.repr_of_none (fin fun _ _ e => e)
      | bl b =>
        cases ru
        have := fin (h' := s.heap) (uu := s.toks) (tk := s.toks + 1) fun _ _ e => e
        rw [PyData.shown_bool] at this
        exact PySem.P.repr_of_bool this
      | int i =>
        obtain ⟨t, rfl⟩ := ru
        have := fin (h' := s.heap) (uu := s.toks) (tk := s.toks + 1) fun _ _ e => e
        rw [PyData.shown_int] at this
        exact PySem.P.repr_of_int (by simpa [PyData.showable] using h2) this
      | str i =>
        obtain ⟨t, rfl⟩ := ru
        have := fin (h' := s.heap) (uu := s.toks) (tk := s.toks + 1) fun _ _ e => e
        rw [PyData.shown_str] at this h3
        exact PySem.P.repr_of_str this h3
      | lst h f rr =>
        cases ru
        obtain ⟨as, rd⟩ := Dp.reads I _ _ _ ((Dv.lst h f rr).dp h1) rfl
        exact repr_of_reads' rd h2 (fun z => by rw [h1] at z; cases z) hG (by omega) (fun _ _ e => e) (fun h' u tk kp => fin kp) h3
      | tup h rr =>
        cases ru
        obtain ⟨as, rd⟩ := Dp.reads I _ _ _ ((Dv.tup h rr).dp h1) rfl
        exact repr_of_reads' rd h2 (fun z => by rw [h1] at z; cases z) hG (by omega) (fun _ _ e => e) (fun h' u tk kp => fin kp) h3
      | dic h f rr qq =>
        cases h1
  · exact w.elim
/-! ### isinstance(x, T) -/
def tyD : D → String
  | .d .none => "NoneType"
  | .d (.bool _) => "bool"
  | .d (.int _) => "int"
  | .d (.str _) => "str"
  | .d (.tuple _) => "tuple"
  | .d (.dict _) => "dict"
  | _ => "list"
def isT (T : String) (d : D) : Bool := (kitB (tyD d) T).getD false
theorem ty_at {K : PySem.W.Frag} {st : Sto} {H : Hp} {v : V} {d : D} (r : DvD K st H v d) (S : SR K st H) (ho : ∀ a, d = .own a → (st a).isSome = true) : TyX K H v (.type (tyD d)) := by
  cases r with
  | own a =>
    obtain ⟨ds, e⟩ := Option.isSome_iff_exists.mp (ho a rfl)
    obtain ⟨xs, h, _⟩ := S a ds e
    exact .base (.lst h)
  | scr h f =>
    rcases h with (h | ⟨o, h⟩) | ⟨o, its, n, h, hc, _⟩
    · exact .base (.lst h)
    · exact .base (.frz h)
    · exact .kList h hc
  | d h =>
    cases h with
    | non => exact .base .non
    | bl b => exact .base (.bl b)
    | int i => exact .base (.int i)
    | str i => exact .base (.str i)
    | lst h f r => exact .base (.lst h)
    | dic h f r q => exact .base (.dK h)
    | tup h r =>
      rcases h with (h | ⟨o, h⟩) | ⟨o, its, n, h, hc, _⟩
      · exact .base (.tup h)
      · exact .fTuple h
      · exact .kTuple h hc
def dIs (T : String) (te : TEd) : TEd := fun e st Q => te e st fun d st1 => (∀ a, d = .own a → (st1 a).isSome = true) ∧ (kitB (tyD d) T).isSome = true ∧ Q (.d (.bool (isT T d))) st1
theorem pd_is {y : Str} (hg : Gl X "isinstance") (hm : X.mg "isinstance" = none) (hg2 : Gl X y) (hm2 : X.mg y = none) (hv2 : bootBuiltins y = some (.type T)) (he : PD X e te) (hv : bootBuiltins "isinstance" = some (.builtin "isinstance") := by rfl)
    (hn2 : y ≠ "__name__" := by decide) (hd2 : (y == ("__debug__" : Str)) = false := by decide)
    (h1 : starEach [.Name y p2] X.env = [(false, eval (.Name y p2) X.env)] := by rfl) (hs : starEach [e, .Name y p2] X.env = (false, eval e X.env) :: starEach [.Name y p2] X.env := by rfl) (hpl : (backTo pos (starEach [.Name y p2] X.env)).any (·.1) = false := by rfl) :
    PD X (.Call (.Name "isinstance" p) [e, .Name y p2] [] pos) (dIs T te) :=
  PE.imp (pe_callB call_isi hg hm hv (pa_cons he (pa_cons (pe_bltn (v := .ty T) hg2 hm2 hv2 rfl hn2 hd2) pa_nil h1) hs) (by decide) (by decide) hs hpl) fun σ H Q ⟨e, st, hid, Qd, re, S, h, k⟩ => ⟨e, st, hid, _, re, S, h, fun v H1 d st1 F1 S1 r ⟨h0, h1, q⟩ => by
    obtain ⟨b, hb⟩ := Option.isSome_iff_exists.mp h1
    have eb : isT T d = b := by
      unfold isT
      rw [hb]
      rfl
    rw [eb] at q
    exact ⟨v, .ty T, .type (tyD d), .type T, b, rfl, .ty T, ty_at r S1.sr (fun a z => by
      obtain ⟨ds, e⟩ := Option.isSome_iff_exists.mp (h0 a z)
      rw [jn_some e]
      rfl), kit_ty hb, (Go.mono k F1).now S1 (.d (.bl b)) q⟩⟩
end
end DL
namespace DL
open PySem PySem.Spec PyProof.Rows L2
/-! ### what is walked -/
structure ItD where
  xs : List D
  dep : Option (Addr × List D) := none
def ItD.at (it : ItD) (st : Sto) : Prop := ∀ a ds, it.dep = some (a, ds) → st a = some ds
/-- J walks just these, whatever is laid meanwhile -/
def ItOk (K : PySem.W.Frag) (F0 : Sto) (H0 : Hp) (J : It) (it : ItD) : Prop := ∀ (i : Nat) (F : Sto) (H : Hp), Fr F0 H0 F H → SR K F H → it.at F →
  (∀ d, it.xs[i]? = some d → J.go i H ∧ ∀ x H', J.yld i H x H' → Fr F H F H' ∧ SR K F H' ∧ DvD K F H' x d) ∧ (it.xs.length ≤ i → J.stop i H)
abbrev TId := Ed → Sto → (ItD → Sto → Prop) → Prop
def upI (K : PySem.W.Frag) (t : TId) : TI := fun σ H R => ∃ e st hid Rd, RE K (jn st hid) H σ e ∧ Sx K st hid H ∧ t e st Rd ∧ ∀ J H' it st', FrX st hid H st' H' → Sx K st' hid H' → ItOk K (jn st' hid) H' J it → it.at st' → Rd it st' → R J H'
abbrev PDI (X : Cx) (tg iter : Expr) (t : TId) : Prop := PI X tg iter (upI X.K t)
theorem PI.imp {X : Cx} {tg iter : Expr} {t t' : TI} (h : PI X tg iter t) (i : ∀ σ H Q, t' σ H Q → t σ H Q) : PI X tg iter t' := ⟨fun pins s σ H Q I w => h.run pins s σ H Q I (i σ H Q w)⟩
def dIter (te : TEd) : TId := fun e st R => te e st fun d st1 => match d with
  | .d (.tuple xs) => R ⟨xs.map D.d, none⟩ st1
  | .d (.list xs) => R ⟨xs.map D.d, none⟩ st1
  | .own a => ∃ ds, st1 a = some ds ∧ R ⟨ds, some (a, ds)⟩ st1
  | .scr ns => R ⟨ns.map fun n => .d (.int n), none⟩ st1
  | _ => False
section
variable {K : PySem.W.Frag} {F0 : Sto} {H0 : Hp} {a : Addr}
theorem Fr.same {F : Sto} {H : Hp} {H' : Hp} (e : H' = H) : Fr F H F H' := by
  subst e
  exact Fr.refl _ _
theorem itok_tup {vs : List V} {xs : List PyData} (h : SqT K H0 a vs) (r : Dvs K F0 H0 vs xs) (S0 : SR K F0 H0) : ItOk K F0 H0 (Itt K a) ⟨xs.map D.d, none⟩ := fun i F H fr S _ => by
  have h' := sqT_mono fr S0 h
  have r' := r.mono fr S0
  refine ⟨fun d e => ?_, fun z => ⟨vs, h', by
    have z' : (xs.map D.d).length ≤ i := z
    rw [List.length_map] at z'
    rw [r'.length]
    exact z'⟩⟩
  obtain ⟨v, e1, r1⟩ := (Dvs.to r').get e
  refine ⟨⟨vs, v, h', e1⟩, fun x H' ⟨eh, y⟩ => ?_⟩
  subst eh
  have e2 := y vs h'
  rw [e1] at e2
  cases e2
  exact ⟨Fr.refl _ _, S, r1⟩
theorem itok_lst {vs : List V} {xs : List PyData} (h : H0 a = some (.lst vs)) (f : F0 a = none) (r : Dvs K F0 H0 vs xs) (S0 : SR K F0 H0) : ItOk K F0 H0 (Itl K a) ⟨xs.map D.d, none⟩ := fun i F H fr S _ => by
  have h' : SqL K H a vs := .inl (.inl (fr a _ h f).1)
  have r' := r.mono fr S0
  refine ⟨fun d e => ?_, fun z => ⟨vs, h', by
    have z' : (xs.map D.d).length ≤ i := z
    rw [List.length_map] at z'
    rw [r'.length]
    exact z'⟩⟩
  obtain ⟨v, e1, r1⟩ := (Dvs.to r').get e
  refine ⟨⟨vs, v, h', e1⟩, fun x H' ⟨eh, y⟩ => ?_⟩
  subst eh
  have e2 := y vs h'
  rw [e1] at e2
  cases e2
  exact ⟨Fr.refl _ _, S, r1⟩
theorem itok_own {ds : List D} : ItOk K F0 H0 (Itl K a) ⟨ds, some (a, ds)⟩ := fun i F H fr S at_ => by
  obtain ⟨vs, h, r⟩ := S a ds (at_ a ds rfl)
  have h' : SqL K H a vs := .inl (.inl h)
  refine ⟨fun d e => ?_, fun z => ⟨vs, h', by
    rw [Paired.length r]
    exact z⟩⟩
  obtain ⟨v, e1, r1⟩ := r.get e
  refine ⟨⟨vs, v, h', e1⟩, fun x H' ⟨eh, y⟩ => ?_⟩
  subst eh
  have e2 := y vs h'
  rw [e1] at e2
  cases e2
  exact ⟨Fr.refl _ _, S, r1⟩
theorem itok_scr {ns : List Int} (h : DvD K F0 H0 (.ref a) (.scr ns)) (S0 : SR K F0 H0) : ItOk K F0 H0 (Itl K a) ⟨ns.map fun n => .d (.int n), none⟩ := fun i F H fr S _ => by
  cases h.mono fr S0 with
  | scr h' f =>
    refine ⟨fun d e => ?_, fun z => ⟨_, h', by
      have z' : (ns.map fun n => D.d (.int n)).length ≤ i := z
      rw [List.length_map] at z' ⊢
      exact z'⟩⟩
    obtain ⟨v, e1, r1⟩ := (ints_to (K := K) (st := F) (H := H) ns).get e
    refine ⟨⟨_, v, h', e1⟩, fun x H' ⟨eh, y⟩ => ?_⟩
    subst eh
    have e2 := y _ h'
    rw [e1] at e2
    cases e2
    exact ⟨Fr.refl _ _, S, r1⟩
theorem itok_rng {lo : Int} {n : Nat} : ItOk K F0 H0 (Itr lo n) ⟨(List.range n).map fun (i : Nat) => .d (.int (lo + i)), none⟩ := fun i F H fr S _ => by
  refine ⟨fun d e => ?_, fun z => by
    have z' : ((List.range n).map fun (i : Nat) => D.d (.int (lo + i))).length ≤ i := z
    rw [List.length_map, List.length_range] at z'
    exact z'⟩
  have e' : ((List.range n).map fun (i : Nat) => D.d (.int (lo + i)))[i]? = some d := e
  rw [List.getElem?_map] at e'
  cases q : (List.range n)[i]? with
  | none =>
    rw [q] at e'
    cases e'
  | some j =>
    rw [q] at e'
    have hi : i < n := by
      have := (List.getElem?_eq_some_iff.mp q).1
      rw [List.length_range] at this
      exact this
    rw [List.getElem?_range hi] at q
    cases q
    cases e'
    exact ⟨hi, fun x H' ⟨eh, ex⟩ => by
      subst eh
      subst ex
      exact ⟨Fr.refl _ _, S, .d (.int _)⟩⟩
end
section
variable {X : Cx} {tg e : Expr} {te : TEd}
theorem pdi_seq (he : PD X e te) : PDI X tg e (dIter te) := by
  refine ⟨fun pins s σ H R I ⟨en, st, hid, Rd, re, S, h, k⟩ => ?_⟩
  refine thn (he.run pins s σ H (fun x H1 => ∃ a, x = .ref a ∧ ((∃ xs, SqL X.K H1 a xs) ∧ R (Itl X.K a) H1 ∨ (∃ xs, SqT X.K H1 a xs) ∧ R (Itt X.K a) H1)) I ⟨en, st, hid, _, re, S, h, fun v H1 d st1 F1 S1 r q => ?_⟩) fun v s1 ⟨x, H1, I1, r1, a, ex, q1⟩ => ?_
  · split at q
    · obtain ⟨a, vs, rfl, h1, r2⟩ := tup_at r
      exact ⟨a, rfl, .inr ⟨⟨vs, h1⟩, k _ H1 _ st1 F1 S1 (itok_tup h1 r2 S1.sr) (fun a ds z => nomatch z) q⟩⟩
    · cases r with
      | d r =>
        cases r with
        | lst h f r => exact ⟨_, rfl, .inl ⟨⟨_, .inl (.inl h)⟩, k _ H1 _ st1 F1 S1 (itok_lst h f r S1.sr) (fun a ds z => nomatch z) q⟩⟩
    · cases r with
      | own _ =>
        obtain ⟨ds, e1, q⟩ := q
        obtain ⟨vs, h1, r2⟩ := S1.at_ e1
        exact ⟨_, rfl, .inl ⟨⟨vs, .inl (.inl h1)⟩, k _ H1 _ st1 F1 S1 itok_own (fun b es z => by
          cases z
          exact e1) q⟩⟩
    · cases r with
      | scr h f => exact ⟨_, rfl, .inl ⟨⟨_, h⟩, k _ H1 _ st1 F1 S1 (itok_scr (.scr h f) S1.sr) (fun a ds z => nomatch z) q⟩⟩
    · exact q.elim
  · subst ex
    cases r1
    rcases q1 with ⟨⟨xs, hq⟩, q⟩ | ⟨⟨xs, hq⟩, q⟩
    · obtain ⟨its, rv, p, hz⟩ := I1.list hq
      refine wpAny_pyIter_list p.isList ⟨_, [s1.heap.objs.size], _, _, H1, rfl, I1.kept (t' := s1.toks) fun b o e => Heap.get?_push_of_some _ e, turn_list a _, ⟨_, Heap.get?_push_size _ rfl, rfl, rfl⟩, fun b hb => ?_, q⟩
      cases (show b = s1.heap.objs.size by simpa using hb)
      exact I1.fpOk (Nat.le_refl _) (I1.hok.fresh (Nat.le_refl _))
    · obtain ⟨its, rv, p, hz⟩ := I1.tuple hq
      refine wpAny_pyIter_tuple (show s1.heap.IsTuple a its.toArray from p) ⟨_, [s1.heap.objs.size], _, _, H1, rfl, I1.kept (t' := s1.toks) fun b o e => Heap.get?_push_of_some _ e, turn_tuple a _, ⟨_, Heap.get?_push_size _ rfl, rfl, rfl⟩, fun b hb => ?_, q⟩
      cases (show b = s1.heap.objs.size by simpa using hb)
      exact I1.fpOk (Nat.le_refl _) (I1.hok.fresh (Nat.le_refl _))
/-- range(n), range(a, b) -/
def dRng1 (t : TAd) : TId := fun e st R => t e st fun ds st1 => match ds with
  | [.d (.int j)] => -(2 ^ 62) ≤ j ∧ j < 2 ^ 62 ∧ R ⟨(List.range j.toNat).map fun (i : Nat) => .d (.int (0 + i)), none⟩ st1
  | _ => False
def dRng2 (t : TAd) : TId := fun e st R => t e st fun ds st1 => match ds with
  | [.d (.int i), .d (.int j)] => (-(2 ^ 62) ≤ i ∧ i < 2 ^ 62 ∧ -(2 ^ 62) ≤ j ∧ j < 2 ^ 62) ∧ R ⟨(List.range (j - i).toNat).map fun (m : Nat) => .d (.int (i + m)), none⟩ st1
  | _ => False
theorem pdi_rng1 {a : Expr} {t : TAd} {p pos : Pos} (hg : Gl X "range") (hm : X.mg "range" = none) (ha : PDA X [a] t) (hs : starEach [a] X.env = [(false, eval a X.env)] := by rfl) : PDI X tg (.Call (.Name "range" p) [a] [] pos) (dRng1 t) :=
  PI.imp (pi_range1 hg hm ha hs) fun σ H R ⟨e, st, hid, Rd, re, S, h, k⟩ => ⟨e, st, hid, _, re, S, h, fun vs H1 ds st1 F1 S1 r q => by
    split at q
    · obtain ⟨v, rfl, r1⟩ := DvsD.one r
      cases int_at r1
      exact ⟨_, rfl, q.1, q.2.1, k _ H1 _ st1 F1 S1 itok_rng (fun a ds z => nomatch z) q.2.2⟩
    · exact q.elim⟩
theorem pdi_rng2 {a b : Expr} {t : TAd} {p pos : Pos} (hg : Gl X "range") (hm : X.mg "range" = none) (ha : PDA X [a, b] t) (hs : starEach [a, b] X.env = [(false, eval a X.env), (false, eval b X.env)] := by rfl) (hs2 : starEach [b] X.env = [(false, eval b X.env)] := by rfl) : PDI X tg (.Call (.Name "range" p) [a, b] [] pos) (dRng2 t) :=
  PI.imp (pi_range2 hg hm ha hs hs2) fun σ H R ⟨e, st, hid, Rd, re, S, h, k⟩ => ⟨e, st, hid, _, re, S, h, fun vs H1 ds st1 F1 S1 r q => by
    split at q
    · obtain ⟨v, v', rfl, r1, r2⟩ := DvsD.two r
      cases int_at r1
      cases int_at r2
      exact ⟨_, _, rfl, q.1, k _ H1 _ st1 F1 S1 itok_rng (fun a ds z => nomatch z) q.2⟩
    · exact q.elim⟩
end
/-! ### list comprehensions, one name -/
section
variable {K : PySem.W.Frag} {st hid : Sto} {H : Hp} {p : Addr} {ds : List D}
theorem jn_swap (h : st p = none) : jn st (put hid p ds) = jn (put st p ds) hid := by
  funext b
  by_cases e : b = p
  · subst e
    rw [jn_none h, put_same, jn_some put_same]
  · unfold jn
    rw [put_ne e, put_ne e]
theorem Sx.hide (S : Sx K (put st p ds) hid H) (h : st p = none) : Sx K st (put hid p ds) H := by
  refine ⟨fun a n => ?_, by rw [jn_swap h]; exact S.sr⟩
  by_cases e : a = p
  · rw [e]
    exact h
  · rw [put_ne e] at n
    have := S.dj a n
    rw [put_ne e] at this
    exact this
theorem Sx.shown (S : Sx K st (put hid p ds) H) (h : hid p = none) : Sx K (put st p ds) hid H ∧ st p = none := by
  have hp : st p = none := S.dj p (by rw [put_same]; exact fun z => nomatch z)
  refine ⟨⟨fun a n => ?_, by rw [← jn_swap hp]; exact S.sr⟩, hp⟩
  by_cases e : a = p
  · rw [e] at n
    exact absurd h n
  · rw [put_ne e]
    exact S.dj a (by rw [put_ne e]; exact n)
end
def dYes : TTd := fun _ st Q => Q true st
abbrev PDTs (X : Cx) (ifs : List Expr) (t : TTd) : Prop := PTs X ifs (upT X.K t)
theorem PTs.imp {X : Cx} {e : List Expr} {t t' : TT} (h : PTs X e t) (i : ∀ σ H Q, t' σ H Q → t σ H Q) : PTs X e t' := ⟨fun pins s σ H Q I w => h.run pins s σ H Q I (i σ H Q w)⟩
theorem pdts_nil {X : Cx} : PDTs X [] dYes := PTs.imp pts_nil fun σ H Q ⟨e, st, hid, Qd, re, S, h, k⟩ => k true H st (Fr.refl _ _) S h
theorem pdts_one {X : Cx} {c : Expr} {t : TTd} (h : PDT X c t) : PDTs X [c] t := pts_one h
def mkV (ds : List D) (st : Sto) (Q : Kd) : Prop := ∃ xs, pures ds = some xs ∧ Q (.d (.list xs)) st
def dLcM (M : List D → Sto → Kd → Prop) (ti : TId) (i : Nat) (tt : TTd) (te : TEd) : TEd := fun e st Q => ti e st fun it st1 => ∃ W : Nat → List D → Sto → Prop, W 0 [] st1 ∧ ∀ j acc st2, W j acc st2 → it.at st2 ∧ (it.xs.length ≤ j → M acc st2 Q) ∧
  ∀ d, it.xs[j]? = some d → tt (e.set i (some d)) st2 fun b st3 => if b = true then te (e.set i (some d)) st3 fun y st4 => acc.length < sizeLine ∧ W (j + 1) (acc ++ [y]) st4 else W (j + 1) acc st3
abbrev dLc := dLcM mkL
abbrev dLcV := dLcM mkV
theorem set_none_set {α : Type} {σ : List (Option α)} {i : Nat} {x : Option α} : (σ.set i none).set i x = σ.set i x := List.set_set ..
theorem pd_lcM {X : Cx} {M : List D → Sto → Kd → Prop} (hM : ∀ ds st Q, M ds st Q → mkL ds st Q) {elt iter : Expr} {ifs : List Expr} {scope : Scope} {y : Str} {i : Nat} {py pos : Pos} {ti : TId} {tt : TTd} {te : TEd} (hc : X.calm = true) (hN : X.N.Nodup) (hi : PDI X (.Name y py) iter ti) (ok : BlkOk X.N X.env.scope scope [(y, i)])
    (hg : ∀ (s : Shared) (H : Hp) (C : Addr) (cl : List (Str × Addr)) (fp : List Addr), PG (X.blk s H scope (compEnvC scope cl C X.env) fp) (.Name y py) (gName i))
    (ht : ∀ (s : Shared) (H : Hp) (C : Addr) (cl : List (Str × Addr)) (fp : List Addr), PDTs (X.blk s H scope (compEnvC scope cl C X.env) fp) ifs tt)
    (he : ∀ (s : Shared) (H : Hp) (C : Addr) (cl : List (Str × Addr)) (fp : List Addr), PD (X.blk s H scope (compEnvC scope cl C X.env) fp) elt te) (hs : ∀ x, foldedSetIterable iter X.env x = pure x := by intro _; rfl) :
    PD X (.ListComp elt [⟨.Name y py, iter, ifs, 0⟩] scope pos) (dLcM M ti i tt te) :=
  PE.imp (pe_lc (own := [(y, i)]) (wi := upI X.K ti) (g := gName i) (tt := upT X.K tt) (te := up X.K te) hc hN hi ok hg ht he hs) fun σ H Q ⟨e, st, hid, Qd, re, S, h, k⟩ => by
    refine ⟨e, st, hid, _, re, S, h, fun J H1 it st1 F1 S1 ok1 at1 ⟨W, w0, turn⟩ p hp => ?_⟩
    have n1 := jn_free (S1.sr.free0 hp)
    refine ⟨fun j m H2 => m = it.xs.length - j ∧ ∃ acc st2, W j acc st2 ∧ Sx X.K (put st2 p acc) hid H2 ∧ st2 p = none ∧ Fr (jn (put st1 p []) hid) (upd H1 p (.lst [])) (jn (put st2 p acc) hid) H2, ⟨it.xs.length, by simp, [], st1, w0, S1.own hp .nil, n1.1, Fr.refl _ _⟩, ?_⟩
    rintro j m H2 ⟨rfl, acc, st2, w2, S2, n2, F2⟩
    obtain ⟨at2, done, go⟩ := turn j acc st2 w2
    have Sh := S2.hide n2
    have eqF : jn st2 (put hid p acc) = jn (put st2 p acc) hid := jn_swap n2
    -- from the state ahead of the new list
    have F12 : Fr (jn st1 hid) H1 (jn (put st2 p acc) hid) H2 := Fr.trans (fx_own hp) F2
    have F02 : Fr (jn st hid) H (jn (put st2 p acc) hid) H2 := Fr.trans F1 F12
    have atF : it.at (jn (put st2 p acc) hid) := fun a ds z => by
      have e1 := at2 a ds z
      have ne : a ≠ p := fun z' => by
        rw [z', n2] at e1
        cases e1
      exact jn_some (by rw [put_ne ne]; exact e1)
    have It := ok1 j _ H2 F12 S2.sr atF
    by_cases hj : it.xs.length ≤ j
    · refine .inl ⟨It.2 hj, ?_⟩
      obtain ⟨vs, hv, rv⟩ := S2.at_ put_same
      rcases hM _ _ _ (done hj) with ⟨xs, ep, q⟩ | q
      · have ea := pures_eq ep
        subst ea
        obtain ⟨Sc, Fc, fc⟩ := S2.frz put_same
        have ec : cut (put st2 p (xs.map D.d)) p = st2 := by
          funext b
          by_cases eb : b = p
          · rw [eb, cut_same, n2]
          · rw [cut_ne eb, put_ne eb]
        rw [ec] at Sc Fc fc
        exact k _ H2 _ st2 (Fr.trans F02 Fc) Sc (.d (.lst hv fc ((Dvs.of rv).mono Fc S2.sr))) q
      · exact k _ H2 _ _ F02 S2 (.own p) (q p n2)
    · have hlt : j < it.xs.length := Nat.lt_of_not_le hj
      have ed : it.xs[j]? = some it.xs[j] := List.getElem?_eq_getElem hlt
      obtain ⟨g1, g2⟩ := It.1 _ ed
      refine .inr ⟨g1, fun H' => ∃ acc' st', W (j + 1) acc' st' ∧ Sx X.K (put st' p acc') hid H' ∧ st' p = none ∧ Fr (jn (put st1 p []) hid) (upd H1 p (.lst [])) (jn (put st' p acc') hid) H', fun H' ⟨acc', st', h1, h2, h3, h4⟩ => ⟨it.xs.length - (j + 1), by omega, rfl, acc', st', h1, h2, h3, h4⟩, fun x H3 hy => ?_⟩
      obtain ⟨F23, S3r, rx⟩ := g2 x H3 hy
      have S3 : Sx X.K (put st2 p acc) hid H3 := ⟨S2.dj, S3r⟩
      have S3h := S3.hide n2
      have F03 := Fr.trans F02 F23
      have reX : RE X.K (jn st2 (put hid p acc)) H3 (((wipe σ [i]).set i (some x))) (e.set i (some it.xs[j])) := by
        rw [eqF]
        show RE X.K _ H3 ((σ.set i none).set i (some x)) _
        rw [set_none_set]
        exact (re.mono F03 S.sr).set rx
      show wipe ((wipe σ [i]).set i (some x)) [i] = wipe σ [i] ∧ upT X.K tt ((wipe σ [i]).set i (some x)) H3 _
      refine ⟨by
        show (((σ.set i none).set i (some x)).set i none) = σ.set i none
        rw [List.set_set, List.set_set], ?_⟩
      refine ⟨_, st2, put hid p acc, _, reX, S3h, go _ ed, fun b H4 st4 F4 S4 q4 => ?_⟩
      have hn : hid p = none := n1.2
      have F3X : Fr (jn (put st1 p []) hid) (upd H1 p (.lst [])) (jn st2 (put hid p acc)) H3 := by
        rw [eqF]
        exact Fr.trans F2 F23
      cases b with
      | false =>
        rw [if_neg Bool.false_ne_true] at q4
        refine iteF ?_
        obtain ⟨S4', n4⟩ := S4.shown hn
        refine ⟨acc, st4, q4, S4', n4, ?_⟩
        rw [← jn_swap n4]
        exact Fr.trans F3X F4
      | true =>
        rw [if_pos rfl] at q4
        refine iteT ?_
        refine ⟨_, st4, put hid p acc, _, reX.mono F4 S3h.sr, S4, q4, fun v H5 d st5 F5 S5 r5 ⟨hz, w5⟩ => ?_⟩
        obtain ⟨S5', n5⟩ := S5.shown hn
        obtain ⟨vs, hv, rv⟩ := S5'.at_ put_same
        rw [jn_swap n5] at r5
        refine ⟨vs, hv, by rw [Paired.length rv]; exact hz, acc ++ [d], st5, w5, ?_, n5, ?_⟩
        · have := S5'.store (es := acc ++ [d]) put_same (DvsD.snoc rv r5)
          have ee : put (put st5 p acc) p (acc ++ [d]) = put st5 p (acc ++ [d]) := by
            funext b
            by_cases eb : b = p
            · rw [eb, put_same, put_same]
            · rw [put_ne eb, put_ne eb, put_ne eb]
          rw [ee] at this
          exact this
        · have Fa : Fr (jn (put st1 p []) hid) (upd H1 p (.lst [])) (jn (put st5 p acc) hid) H5 := by
            rw [← jn_swap n5]
            exact Fr.trans F3X (Fr.trans F4 F5)
          intro b o hb hf
          have ne : b ≠ p := fun z => by
            rw [z, jn_some put_same] at hf
            cases hf
          obtain ⟨z1, z2⟩ := Fa b o hb hf
          refine ⟨by rw [upd_ne ne]; exact z1, ?_⟩
          unfold jn at z2 ⊢
          rw [put_ne ne] at z2 ⊢
          exact z2
theorem hm_own : ∀ ds st Q, mkL ds st Q → mkL ds st Q := fun _ _ _ h => h
theorem hm_val : ∀ ds st Q, mkV ds st Q → mkL ds st Q := fun _ _ _ h => .inl h
end DL
namespace DL
open PySem PySem.Spec PyProof.Rows L2
/-! ### targets -/
abbrev TGd := D → Ed → Sto → (Ed → Sto → Prop) → Prop
abbrev TGsd := List D → Ed → Sto → (Ed → Sto → Prop) → Prop
def upG (K : PySem.W.Frag) (t : TGd) : TG := fun v σ H Q => ∃ d e st hid Qd, DvD K (jn st hid) H v d ∧ RE K (jn st hid) H σ e ∧ Sx K st hid H ∧ t d e st Qd ∧ GoS K st hid H Qd Q
def upGs (K : PySem.W.Frag) (t : TGsd) : TGs := fun vs σ H Q => ∃ ds e st hid Qd, DvsD K (jn st hid) H vs ds ∧ RE K (jn st hid) H σ e ∧ Sx K st hid H ∧ t ds e st Qd ∧ GoS K st hid H Qd Q
abbrev PDG (X : Cx) (tg : Expr) (t : TGd) : Prop := PG X tg (upG X.K t)
abbrev PDGs (X : Cx) (tg : List Expr) (t : TGsd) : Prop := PGs X tg (upGs X.K t)
theorem PG.imp {X : Cx} {tg : Expr} {t t' : TG} (h : PG X tg t) (i : ∀ v σ H Q, t' v σ H Q → t v σ H Q) : PG X tg t' := ⟨fun pins s σ H v u Q I r w => h.run pins s σ H v u Q I r (i v σ H Q w)⟩
theorem PGs.imp {X : Cx} {tg : List Expr} {t t' : TGs} (h : PGs X tg t) (i : ∀ v σ H Q, t' v σ H Q → t v σ H Q) : PGs X tg t' := ⟨fun pins s σ H v u Q I r w => h.run pins s σ H v u Q I r (i v σ H Q w)⟩
theorem GoS.now {K : PySem.W.Frag} {st hid : Sto} {H : Hp} {Qd : Ed → Sto → Prop} {Q : L2.St → Hp → Prop} (g : GoS K st hid H Qd Q) {σ : L2.St} {e : Ed} (S : Sx K st hid H) (h : RE K (jn st hid) H σ e) (q : Qd e st) : Q σ H := g σ H e st (Fr.refl _ _) S h q
section
variable {X : Cx} {pos : Pos}
def hName (i : Nat) : TGd := fun d e st Q => Q (e.set i (some d)) st
theorem pdg_name {i : Nat} {x : Str} (hN : X.N.Nodup) (hi : X.N[i]? = some x) (hx : Loc X.env.scope x) (hf : X.fn x = true ∨ X.env.scope.names.lookup x = some .local := by first | exact .inl rfl | exact .inr rfl | assumption) : PDG X (.Name x pos) (hName i) :=
  PG.imp (pg_name hN hi hx hf) fun v σ H Q ⟨d, e, st, hid, Qd, r, re, S, q, k⟩ => GoS.now k S (re.set r) q
def hNil : TGsd := fun ds e st Q => ds = [] ∧ Q e st
def hCons (t : TGd) (u : TGsd) : TGsd := fun ds e st Q => match ds with
  | d :: r => t d e st fun e1 st1 => u r e1 st1 Q
  | [] => False
theorem pdgs_nil : PDGs X [] hNil := PGs.imp pgs_nil fun v σ H Q ⟨ds, e, st, hid, Qd, r, re, S, q, k⟩ => by
  obtain ⟨rfl, q⟩ := q
  cases r
  exact ⟨rfl, GoS.now k S re q⟩
theorem pdgs_cons {e : Expr} {es : List Expr} {t : TGd} {u : TGsd} (h1 : PDG X e t) (h2 : PDGs X es u)
    (hs : (assignEach (e :: es) X.env).map (·.2) = assign e X.env :: (assignEach es X.env).map (·.2) := by rfl) : PDGs X (e :: es) (hCons t u) :=
  PGs.imp (pgs_cons h1 h2 hs) fun v σ H Q ⟨ds, e, st, hid, Qd, r, re, S, q, k⟩ => by
    cases r with
    | nil => exact q.elim
    | cons h t =>
      exact ⟨_, _, rfl, _, e, st, hid, _, h, re, S, q, fun σ1 H1 e1 st1 F1 S1 re1 q1 => ⟨_, e1, st1, hid, Qd, DvsD.mono F1 S.sr t, re1, S1, q1, GoS.mono k F1⟩⟩
/-- (a, b, ..) = a tuple of that length -/
def hTup (n : Nat) (t : TGsd) : TGd := fun d e st Q => match d with
  | .d (.tuple xs) => xs.length = n ∧ t (xs.map D.d) e st Q
  | _ => False
theorem pdg_tup {es : List Expr} {k : Nat} {t : TGsd} {n : Nat} (hc : X.calm = true) (h : PDGs X es t)
    (hn : (assignEach es X.env).length = n := by rfl) (hst : (assignEach es X.env).findIdx? (·.1) = none := by rfl) : PDG X (.Tuple es k pos) (hTup n t) :=
  PG.imp (pg_tup hc h hn hst) fun v σ H Q ⟨d, e, st, hid, Qd, r, re, S, q, k⟩ => by
    unfold hTup at q
    split at q
    · obtain ⟨a, vs, rfl, h1, r1⟩ := tup_at r
      exact ⟨a, vs, rfl, h1, by rw [r1.length]; exact q.1, _, e, st, hid, Qd, Dvs.to r1, re, S, q.2, k⟩
    · exact q.elim
/-- xs[i] = v of a list that may change -/
def hSub (to ti : TEd) : TGd := fun d e st Q => to e st fun o st1 => ti e st1 fun i st2 => match o, i with
  | .own a, .d (.int i) => ∃ ds j, st2 a = some ds ∧ ixN ds.length i = some j ∧ Q e (put st2 a (ds.set j d))
  | _, _ => False
theorem pdg_sub {o i : Expr} {to ti : TEd} (ho : PD X o to) (hi : PD X i ti)
    (ha : ∀ v, assign (.Subscript o i pos) X.env v = (do
      let ov ← holding [v] (eval o X.env); let iv ← holding [v, ov] (eval i X.env)
      standAt pos; holding [v, ov, iv] (setItem ov iv v); release [v, ov, iv] []) := by intro _; rfl) : PDG X (.Subscript o i pos) (hSub to ti) :=
  PG.imp (pg_sub ho hi set_list ha) fun v σ H Q ⟨d, e, st, hid, Qd, r, re, S, h, k⟩ => ⟨e, st, hid, _, re, S, h, fun ov H1 od st1 F1 S1 r1 h1 => ⟨e, st1, hid, _, re.mono F1 S.sr, S1, h1, fun iv H2 id st2 F2 S2 r2 h2 => by
    split at h2
    · obtain ⟨ds, j, e1, e2, q⟩ := h2
      cases int_at r2
      cases r1 with
      | own _ =>
        obtain ⟨vs, hv, rv⟩ := S2.at_ e1
        have F := Fr.trans F1 F2
        refine ⟨_, vs, _, j, rfl, rfl, hv, by rw [Paired.length rv]; exact e2, ?_⟩
        have F3 : FrX st2 hid H2 (put st2 _ (ds.set j d)) (upd H2 _ (.lst (vs.set j v))) := fx_put e1
        exact k _ _ _ _ (Fr.trans F F3) (S2.store e1 (DvsD.set j rv (r.mono F S.sr))) (re.mono (Fr.trans F F3) S.sr) q
    · exact h2.elim⟩⟩
end
/-! ### statements -/
section
variable {X : Cx} {st : Stmt} {rest : List Stmt} {t u : TSd} {e : Expr} {te : TEd} {pos : Pos}
theorem PDS.go {X : Cx} {s : Stmt} {T : TS} {t : TSd} (h : PS X s T) (i : ∀ D σ H, upS X.K t D σ H → T D σ H) : PDS X s t := PS.imp h i
def dNext : TSd := fun E e st => E.nx e st
def dSeq (t u : TSd) : TSd := fun E e st => t { E with nx := u E } e st
theorem pss_dnil : PDSs X [] dNext := PSs.imp pss_nil fun D σ H ⟨e, st, hid, E, re, S, h, k1, k2, k3, k4⟩ => GoS.now k1 S re h
theorem seq_imp {K : PySem.W.Frag} {D : Ends} {σ : L2.St} {H : Hp} (w : upS K (dSeq t u) D σ H) : tSeq (upS K t) (upS K u) D σ H := by
  obtain ⟨e, st, hid, E, re, S, h, k1, k2, k3, k4⟩ := w
  exact ⟨e, st, hid, { E with nx := u E }, re, S, h, fun σ' H' e' st' F' S' re' q => ⟨e', st', hid, E, re', S', q, GoS.mono k1 F', Go.mono k2 F', GoS.mono k3 F', GoS.mono k4 F'⟩, k2, k3, k4⟩
theorem pss_dcons (h1 : PDS X st t) (h2 : PDSs X rest u) : PDSs X (st :: rest) (dSeq t u) := PSs.imp (pss_cons h1 h2) fun _ _ _ => seq_imp
theorem pss_done (h1 : PDS X st t) : PDSs X [st] t := pss_one h1
def dBreak : TSd := fun E e st => E.bk e st
def dCont : TSd := fun E e st => E.ct e st
theorem psd_break : PDS X (.Break pos) dBreak := PS.imp ps_break fun D σ H ⟨e, st, hid, E, re, S, h, k1, k2, k3, k4⟩ => GoS.now k3 S re h
theorem psd_cont : PDS X (.Continue pos) dCont := PS.imp ps_continue fun D σ H ⟨e, st, hid, E, re, S, h, k1, k2, k3, k4⟩ => GoS.now k4 S re h
theorem psd_pass : PDS X (.Pass pos) dNext := PS.imp ps_pass fun D σ H ⟨e, st, hid, E, re, S, h, k1, k2, k3, k4⟩ => GoS.now k1 S re h
def dNever : TSd := fun _ _ _ => False
theorem pss_dnever {sts : List Stmt} : PDSs X sts dNever := PSs.imp pss_never fun D σ H ⟨e, st, hid, E, re, S, h, _⟩ => h.elim
theorem psd_never : PDS X st dNever := PS.imp ps_never fun D σ H ⟨e, st, hid, E, re, S, h, _⟩ => h.elim
def dDrop (te : TEd) : TSd := fun E e st => te e st fun _ st1 => E.nx e st1
theorem psd_expr (he : PD X e te) (hs : swapsWith e none pos.line X.env = pure false := by rfl) : PDS X (.Expr e pos) (dDrop te) :=
  PS.imp (ps_expr he hs) fun D σ H ⟨e, st, hid, E, re, S, h, k1, k2, k3, k4⟩ => ⟨e, st, hid, _, re, S, h, fun v H1 d st1 F1 S1 r q => k1 σ H1 e st1 F1 S1 (re.mono F1 S.sr) q⟩
/-- a list that may change is given as a value -/
def frz (Q : Kd) : Kd := fun d st => Q d st ∨ ∃ a xs, d = .own a ∧ st a = some (xs.map D.d) ∧ Q (.d (.list xs)) (cut st a)
theorem frz_go {K : PySem.W.Frag} {st hid : Sto} {H : Hp} {Qd : Kd} {Q : VK} (k : Go K st hid H Qd Q) : Go K st hid H (frz Qd) Q := fun v H1 d st1 F1 S1 r q => by
  rcases q with q | ⟨a, xs, rfl, e1, q⟩
  · exact k v H1 d st1 F1 S1 r q
  · cases r with
    | own _ =>
      obtain ⟨vs, hv, rv⟩ := S1.at_ e1
      obtain ⟨Sc, Fc, fc⟩ := S1.frz e1
      exact k _ H1 _ _ (Fr.trans F1 Fc) Sc (.d (.lst hv fc ((Dvs.of rv).mono Fc S1.sr))) q
def dRet (te : TEd) : TSd := fun E e st => te e st (frz E.rt)
theorem psd_ret (he : PD X e te) : PDS X (.Return (some e) pos) (dRet te) :=
  PS.imp (ps_ret he) fun D σ H ⟨e, st, hid, E, re, S, h, k1, k2, k3, k4⟩ => ⟨e, st, hid, _, re, S, h, frz_go k2⟩
def dRetN : TSd := fun E _ st => E.rt (.d .none) st
theorem psd_retN : PDS X (.Return none pos) dRetN := PS.imp ps_retN fun D σ H ⟨e, st, hid, E, re, S, h, k1, k2, k3, k4⟩ => Go.now k2 S (.d .non) h
def dIfS (c : TTd) (t u : TSd) : TSd := fun E e st => c e st fun b st1 => if b = true then t E e st1 else u E e st1
theorem psd_if {c : Expr} {a b : List Stmt} {tc : TTd} (hc : PDT X c tc) (ha : PDSs X a t) (hb : PDSs X b u) : PDS X (.If c a b pos) (dIfS tc t u) :=
  PS.imp (ps_if hc ha hb) fun D σ H ⟨e, st, hid, E, re, S, h, k1, k2, k3, k4⟩ => ⟨e, st, hid, _, re, S, h, fun b H1 st1 F1 S1 q => by
    cases b with
    | true =>
      rw [if_pos rfl] at q
      exact iteT ⟨e, st1, hid, E, re.mono F1 S.sr, S1, q, GoS.mono k1 F1, Go.mono k2 F1, GoS.mono k3 F1, GoS.mono k4 F1⟩
    | false =>
      rw [if_neg Bool.false_ne_true] at q
      exact iteF ⟨e, st1, hid, E, re.mono F1 S.sr, S1, q, GoS.mono k1 F1, Go.mono k2 F1, GoS.mono k3 F1, GoS.mono k4 F1⟩⟩
def dAsg (te : TEd) (g : TGd) : TSd := fun E e st => te e st (frz fun d st1 => g d e st1 E.nx)
theorem asg_imp {K : PySem.W.Frag} {g : TGd} {D : Ends} {σ : L2.St} {H : Hp} (w : upS K (dAsg te g) D σ H) : tAsg (up K te) (upG K g) D σ H := by
  obtain ⟨e, st, hid, E, re, S, h, k1, k2, k3, k4⟩ := w
  exact ⟨e, st, hid, _, re, S, h, frz_go fun v H1 d st1 F1 S1 r q => ⟨d, e, st1, hid, _, r, re.mono F1 S.sr, S1, q, GoS.mono k1 F1⟩⟩
theorem psd_asg {tg : Expr} {g : TGd} (he : PD X e te) (hg : PDG X tg g) (hs : swapsWithSole [tg] e pos.line X.env = pure false := by rfl) (hw : swappedStores [tg] e X.env = pure none := by rfl)
    (h1 : (assignEach [tg] X.env).map (·.2) = [assign tg X.env] := by rfl) : PDS X (.Assign [tg] e pos) (dAsg te g) := PS.imp (ps_asg he hg hs hw h1) fun _ _ _ => asg_imp
theorem psd_set {i : Nat} {x : Str} {pos' : Pos} (hN : X.N.Nodup) (hi : X.N[i]? = some x) (hx : Loc X.env.scope x) (he : PD X e te) (hs : swapsWith e (some (.Name x pos')) pos.line X.env = pure false := by rfl) (hf : X.fn x = true ∨ X.env.scope.names.lookup x = some .local := by first | exact .inl rfl | exact .inr rfl | assumption) :
    PDS X (.Assign [.Name x pos'] e pos) (dAsg te (hName i)) := PS.imp (ps_set hN hi hx he hs hf) fun D σ H ⟨e, st, hid, E, re, S, h, k1, k2, k3, k4⟩ => ⟨e, st, hid, _, re, S, h, frz_go fun v H1 d st1 F1 S1 r q => k1 _ H1 _ st1 F1 S1 ((re.mono F1 S.sr).set r) q⟩
/-- a, b = x, y with plain local names -/
def dPar (i j : Nat) (ta : TAd) : TSd := fun E e st => ta e st fun ds st1 => match ds with
  | [d1, d2] => E.nx ((e.set i (some d1)).set j (some d2)) st1
  | _ => False
theorem psd_par {i j : Nat} {x y : Str} {a b : Expr} {ta : TAd} {px py pt : Pos} {kt k2 pt2} (hc : X.calm = true) (hN : X.N.Nodup) (hi : X.N[i]? = some x) (hj : X.N[j]? = some y) (hij : i ≠ j)
    (hx : X.env.scope.names.lookup x = some .local) (hy : X.env.scope.names.lookup y = some .local) (ha : PDA X [a, b] ta)
    (hw : swappedStores [.Tuple [.Name x px, .Name y py] kt pt] (.Tuple [a, b] k2 pt2) X.env = pure (some [x, y]))
    (hs : swapsWithSole [.Tuple [.Name x px, .Name y py] kt pt] (.Tuple [a, b] k2 pt2) pos.line X.env = pure false := by rfl) :
    PDS X (.Assign [.Tuple [.Name x px, .Name y py] kt pt] (.Tuple [a, b] k2 pt2) pos) (dPar i j ta) :=
  PS.imp (ps_par hc hN hi hj hij hx hy ha hw hs) fun D σ H ⟨e, st, hid, E, re, S, h, k1, k2, k3, k4⟩ => ⟨e, st, hid, _, re, S, h, fun vs H1 ds st1 F1 S1 r q => by
    split at q
    · obtain ⟨v, v', rfl, r1, r2⟩ := DvsD.two r
      exact ⟨v, v', rfl, k1 _ H1 _ st1 F1 S1 (((re.mono F1 S.sr).set r1).set r2) q⟩
    · exact q.elim⟩
def dPar3 (i j l : Nat) (ta : TAd) : TSd := fun E e st => ta e st fun ds st1 => match ds with
  | [d1, d2, d3] => E.nx (((e.set i (some d1)).set j (some d2)).set l (some d3)) st1
  | _ => False
theorem psd_par3 {i j l : Nat} {x y z : Str} {a b c : Expr} {ta : TAd} {px py pz pt : Pos} {kt k2 pt2} (hc : X.calm = true) (hN : X.N.Nodup) (hi : X.N[i]? = some x) (hj : X.N[j]? = some y) (hl : X.N[l]? = some z) (hij : i ≠ j) (hil : i ≠ l) (hjl : j ≠ l)
    (hx : X.env.scope.names.lookup x = some .local) (hy : X.env.scope.names.lookup y = some .local) (hz : X.env.scope.names.lookup z = some .local) (ha : PDA X [a, b, c] ta)
    (hw : swappedStores [.Tuple [.Name x px, .Name y py, .Name z pz] kt pt] (.Tuple [a, b, c] k2 pt2) X.env = pure (some [x, y, z]))
    (hs : swapsWithSole [.Tuple [.Name x px, .Name y py, .Name z pz] kt pt] (.Tuple [a, b, c] k2 pt2) pos.line X.env = pure false := by rfl) :
    PDS X (.Assign [.Tuple [.Name x px, .Name y py, .Name z pz] kt pt] (.Tuple [a, b, c] k2 pt2) pos) (dPar3 i j l ta) :=
  PS.imp (ps_par3 hc hN hi hj hl hij hil hjl hx hy hz ha hw hs) fun D σ H ⟨e, st, hid, E, re, S, h, k1, k2, k3, k4⟩ => ⟨e, st, hid, _, re, S, h, fun vs H1 ds st1 F1 S1 r q => by
    split at q
    · cases r with
      | cons r1 t =>
        obtain ⟨v, v', rfl, r2, r3⟩ := DvsD.two t
        exact ⟨_, v, v', rfl, k1 _ H1 _ st1 F1 S1 ((((re.mono F1 S.sr).set r1).set r2).set r3) q⟩
    · exact q.elim⟩
/-- xs.append(e) -/
def dApp (to te : TEd) : TEd := fun e st Q => to e st fun o st1 => match o with
  | .own a => (st1 a).isSome = true ∧ te e st1 fun d st2 => ∃ ds, st2 a = some ds ∧ ds.length < sizeLine ∧ Q (.d .none) (put st2 a (ds ++ [d]))
  | _ => False
theorem pd_append {o : Expr} {to : TEd} {apos cpos : Pos} (ho : PD X o to) (ha : PD X e te)
    (hbase : attributeBase o "append" X.env (eval o X.env) = eval o X.env := by rfl) (hline : (apos.endLine == cpos.line) = true := by rfl)
    (hs0 : starEach [e] X.env = (false, eval e X.env) :: starEach [] X.env := by rfl)
    (hfew : ((backTo cpos (starEach [e] X.env)).all (fun x => !x.1) && (backToKw cpos (keywordEach [] X.env)).all (fun x => x.1.isSome) && decide ([e].length + ([] : List Keyword).length + (if ([] : List Keyword).isEmpty then 0 else 1) < 30)) = true := by rfl)
    (hplain : (backTo cpos (starEach [] X.env)).any (·.1) = false := by rfl) : PD X (.Call (.Attribute o "append" apos) [e] [] cpos) (dApp to te) := by
  refine PE.imp (pe_bm PySem.F.plainAttrs_list PySem.F.slot_list_append PySem.F.type_list_append mt_append ho (pa_cons ha pa_nil hs0) hbase hfew hline hs0 hplain) fun σ H Q ⟨e, st, hid, Qd, re, S, h, k⟩ => ⟨e, st, hid, _, re, S, h, fun v H1 d st1 F1 S1 r q => ?_⟩
  cases r with
  | d h => exact q.elim
  | scr h f => exact q.elim
  | own a =>
    obtain ⟨h0, q⟩ := q
    obtain ⟨ds, e1⟩ := Option.isSome_iff_exists.mp h0
    obtain ⟨vs, hv, rv⟩ := S1.at_ e1
    refine ⟨.inl ⟨rfl, vs, .inl (.inl hv)⟩, e, st1, hid, _, re.mono F1 S.sr, S1, q, fun y H2 dy st2 F2 S2 ry ⟨es, e2, hz, q2⟩ => ?_⟩
    obtain ⟨ws, hw, rw'⟩ := S2.at_ e2
    have F3 : FrX st2 hid H2 (put st2 a (es ++ [dy])) (upd H2 a (.lst (ws ++ [y]))) := fx_put e2
    exact ⟨a, ws, y, rfl, rfl, hw, by rw [Paired.length rw']; exact hz, k _ _ _ _ (Fr.trans F1 (Fr.trans F2 F3)) (S2.store e2 (DvsD.snoc rw' ry)) (.d .non) q2⟩
/-- while: the word and its measure -/
def dWhile (c : TTd) (tb : TSd) : TSd := fun E e st => ∃ W : Nat → Ed → Sto → Prop, (∃ m, W m e st) ∧ ∀ m e st, W m e st → c e st fun b st1 => if b = true then tb { E with nx := fun e' st' => ∃ m', m' < m ∧ W m' e' st', ct := fun e' st' => ∃ m', m' < m ∧ W m' e' st', bk := E.nx } e st1 else E.nx e st1
theorem psd_while {c : Expr} {body : List Stmt} {tc : TTd} {tb : TSd} (hp : PassesOwn (model X.prog X.w) X.A X.env X.xe) (hc : PDT X c tc) (hb : PDSs X body tb) : PDS X (.While c body [] pos) (dWhile tc tb) :=
  PS.imp (ps_while hp hc hb) fun D σ H ⟨e, st, hid, E, re, S, ⟨W, ⟨m0, w0⟩, turn⟩, k1, k2, k3, k4⟩ => by
    refine ⟨fun m σ' H' => ∃ e' st', W m e' st' ∧ FrX st hid H st' H' ∧ Sx X.K st' hid H' ∧ RE X.K (jn st' hid) H' σ' e', ⟨m0, e, st, w0, Fr.refl _ _, S, re⟩, fun m σ1 H1 ⟨e1, st1, w1, F1, S1, re1⟩ => ?_⟩
    refine ⟨e1, st1, hid, _, re1, S1, turn m e1 st1 w1, fun b H2 st2 F2 S2 q => ?_⟩
    have F := Fr.trans F1 F2
    cases b with
    | false =>
      rw [if_neg Bool.false_ne_true] at q
      exact iteF (k1 _ H2 _ st2 F S2 (re1.mono F2 S1.sr) q)
    | true =>
      rw [if_pos rfl] at q
      refine iteT ⟨fun σ' H' => ∃ m', m' < m ∧ ∃ e' st', W m' e' st' ∧ FrX st hid H st' H' ∧ Sx X.K st' hid H' ∧ RE X.K (jn st' hid) H' σ' e', fun σ' H' ⟨m', h1, h2⟩ => ⟨m', h1, h2⟩, e1, st2, hid, _, re1.mono F2 S1.sr, S2, q, ?_, Go.mono k2 F, GoS.mono k1 F, ?_⟩
      · exact fun σ3 H3 e3 st3 F3 S3 re3 ⟨m', h1, h2⟩ => ⟨m', h1, e3, st3, h2, Fr.trans F F3, S3, re3⟩
      · exact fun σ3 H3 e3 st3 F3 S3 re3 ⟨m', h1, h2⟩ => ⟨m', h1, e3, st3, h2, Fr.trans F F3, S3, re3⟩
/-- for: the word by the turn -/
def dFor (ti : TId) (g : TGd) (tb : TSd) : TSd := fun E e st => ti e st fun it st1 => ∃ W : Nat → Ed → Sto → Prop, W 0 e st1 ∧ ∀ i e st, W i e st → it.at st ∧ (it.xs.length ≤ i → E.nx e st) ∧
  ∀ d, it.xs[i]? = some d → g d e st fun e2 st2 => tb { E with nx := W (i + 1), ct := W (i + 1), bk := E.nx } e2 st2
theorem psd_for {tg iter : Expr} {body : List Stmt} {ti : TId} {g : TGd} {tb : TSd} (hp : PassesOwn (model X.prog X.w) X.A X.env X.xe) (hc : X.calm = true) (hi : PDI X tg iter ti) (hg : PDG X tg g) (hb : PDSs X body tb)
    (hs : ∀ x, foldedSetIterable iter X.env x = pure x := by intro _; rfl) : PDS X (.For tg iter body [] pos) (dFor ti g tb) :=
  PS.imp (ps_for hp hc hi hg hb hs) fun D σ H ⟨e, st, hid, E, re, S, h, k1, k2, k3, k4⟩ => by
    refine ⟨e, st, hid, _, re, S, h, fun J H1 it st1 F1 S1 ok1 at1 ⟨W, w0, turn⟩ => ?_⟩
    refine ⟨fun i m σ' H' => m = it.xs.length - i ∧ ∃ e' st', W i e' st' ∧ FrX st1 hid H1 st' H' ∧ Sx X.K st' hid H' ∧ RE X.K (jn st' hid) H' σ' e', ⟨it.xs.length, by simp, e, st1, w0, Fr.refl _ _, S1, re.mono F1 S.sr⟩, ?_⟩
    rintro i m σ2 H2 ⟨rfl, e2, st2, w2, F2, S2, re2⟩
    obtain ⟨at2, done, go⟩ := turn i e2 st2 w2
    have It := ok1 i _ H2 F2 S2.sr fun a ds z => jn_some (at2 a ds z)
    by_cases hj : it.xs.length ≤ i
    · exact .inl ⟨It.2 hj, k1 _ H2 _ st2 (Fr.trans F1 F2) S2 re2 (done hj)⟩
    · have hlt : i < it.xs.length := Nat.lt_of_not_le hj
      have ed : it.xs[i]? = some it.xs[i] := List.getElem?_eq_getElem hlt
      obtain ⟨g1, g2⟩ := It.1 _ ed
      refine .inr ⟨g1, fun σ' H' => ∃ e' st', W (i + 1) e' st' ∧ FrX st1 hid H1 st' H' ∧ Sx X.K st' hid H' ∧ RE X.K (jn st' hid) H' σ' e', fun σ' H' q => ⟨it.xs.length - (i + 1), by omega, rfl, q⟩, fun x H3 hy => ?_⟩
      obtain ⟨F3, S3r, rx⟩ := g2 x H3 hy
      have S3 : Sx X.K st2 hid H3 := ⟨S2.dj, S3r⟩
      refine ⟨_, e2, st2, hid, _, rx, re2.mono F3 S2.sr, S3, go _ ed, fun σ4 H4 e4 st4 F4 S4 re4 q4 => ?_⟩
      have F14 : FrX st1 hid H1 st4 H4 := Fr.trans F2 (Fr.trans F3 F4)
      have F04 := Fr.trans F1 F14
      refine ⟨e4, st4, hid, _, re4, S4, q4, ?_, Go.mono k2 F04, GoS.mono k1 F04, ?_⟩
      · exact fun σ' H' e' st' F' S' re' w => ⟨e', st', w, Fr.trans F14 F', S', re'⟩
      · exact fun σ' H' e' st' F' S' re' w => ⟨e', st', w, Fr.trans F14 F', S', re'⟩
end
end DL
namespace DL
open PySem PySem.Spec PyProof.Rows L2
/-! ### defs: as FnOk, called where no repr is under way -/
structure FnG (P : Program) (w : World) (K : PySem.W.Frag) (mg : Str → Option Value) (base : Heap) (k : Nat) (f : Addr) (fd : FuncData) (ps : List Str) (sp : Sp) : Prop where
  len : ∀ vs H Q E, sp vs H Q E → vs.length = ps.length
  run : ∀ (A : Around) (outer : List Env) (s : Shared) (H : Hp) (args : Args) (us : List Value) (vs : List V) (Q : VK) (E : XK), A.guards = some [] → Room k A → Env0 P w K mg base A outer s H → BindsTo s fd args (ps.zip us) → Vals vs us → sp vs H Q E →
    codeAny (model P w) A (.call (.ref f) args) (CR CX0 outer P w H s Q E) s
theorem FnG.mono {P : Program} {w : World} {K : PySem.W.Frag} {mg : Str → Option Value} {base : Heap} {j k : Nat} {f : Addr} {fd : FuncData} {ps : List Str} {sp : Sp} (F : FnG P w K mg base j f fd ps sp) (h : j ≤ k) : FnG P w K mg base k f fd ps sp :=
  ⟨F.len, fun A outer s H args us vs Q E hg hr => F.run A outer s H args us vs Q E hg (hr.mono h)⟩
abbrev SpD := List D → Sto → Kd → Prop
def upSp (K : PySem.W.Frag) (sp : SpD) : Sp := fun vs H Q _ => ∃ ds st hid Qd, DvsD K (jn st hid) H vs ds ∧ Sx K st hid H ∧ sp ds st Qd ∧ Go K st hid H Qd Q
abbrev FnD (P : Program) (w : World) (K : PySem.W.Frag) (mg : Str → Option Value) (base : Heap) (k : Nat) (f : Addr) (fd : FuncData) (ps : List Str) (sp : SpD) : Prop := FnG P w K mg base k f fd ps (upSp K sp)
theorem FnD.imp {P : Program} {w : World} {K : PySem.W.Frag} {mg : Str → Option Value} {base : Heap} {k : Nat} {f : Addr} {fd : FuncData} {ps : List Str} {sp sp' : SpD} (F : FnD P w K mg base k f fd ps sp) (i : ∀ ds st Q, sp' ds st Q → sp ds st Q) : FnD P w K mg base k f fd ps sp' :=
  ⟨fun vs H Q E ⟨ds, st, hid, Qd, r, S, h, g⟩ => F.len vs H Q E ⟨ds, st, hid, Qd, r, S, i _ _ _ h, g⟩, fun A outer s H args us vs Q E hg hr he hb hv ⟨ds, st, hid, Qd, r, S, h, g⟩ => F.run A outer s H args us vs Q E hg hr he hb hv ⟨ds, st, hid, Qd, r, S, i _ _ _ h, g⟩⟩
section
variable {P : Program} {w : World} {K : PySem.W.Frag} {mg : Str → Option Value} {base : Heap}
/-- the context in which a def's body runs -/
abbrev cxD (P : Program) (w : World) (K : PySem.W.Frag) (mg : Str → Option Value) (base : Heap) (N : List Str) (qual : Str) (sc : Scope) (f : Addr) (cd : Value) (A : Around) (outer : List Env) (s : Shared) (H : Hp) (E : XK) : Cx := (cxOf CX0 P w K mg base N qual sc f cd A outer s H E).nox
def startD (N : List Str) (ds : List D) : Ed := ds.map some ++ List.replicate (N.length - ds.length) none
theorem re_start {st : Sto} {H : Hp} {N : List Str} {vs : List V} {ds : List D} (r : DvsD K st H vs ds) : RE K st H (L2.start N vs) (startD N ds) := by
  have hl := Paired.length r
  refine ⟨by unfold L2.start startD; simp [hl], fun i d h => ?_⟩
  unfold startD at h
  by_cases hi : i < ds.length
  · rw [List.getElem?_append_left (by simpa using hi), List.getElem?_map] at h
    cases q : ds[i]? with
    | none =>
      rw [q] at h
      cases h
    | some d' =>
      rw [q] at h
      cases Option.some.inj (Option.some.inj h)
      obtain ⟨v, h1, h2⟩ := r.get q
      refine ⟨v, ?_, h2⟩
      unfold L2.start
      rw [List.getElem?_append_left (by simpa [hl] using hi), List.getElem?_map, h1]
      rfl
  · rw [List.getElem?_append_right (by simpa using hi), List.getElem?_replicate] at h
    split at h <;> cases h
theorem fnD_ok {x qual : Str} {st : Stmt} {f : Addr} {fd : FuncData} {N ps : List Str} {k : Nat} {sp : SpD} {t : TSd} (F : Fun K x qual st f fd) (S : FnScope N ps (defScope st)) (len : ∀ ds s Q, sp ds s Q → ds.length = ps.length)
    (hbody : ∀ (cd : Value) (A : Around) (outer : List Env) (s : Shared) (H : Hp) (E : XK), A.guards = some [] → Room k (A.deeper (envOfC qual (defScope st) s.heap.objs.size f cd)) → PDSs (cxD P w K mg base N qual (defScope st) f cd A outer s H E) (defBody st) t)
    (hsp : ∀ ds s Q, sp ds s Q → t { nx := fun _ s' => Q (.d .none) s', rt := Q } (startD N ds) s) : FnD P w K mg base (k + 1) f fd ps sp := by
  obtain ⟨oc, od, kV, doc, pm, an, cd, ct, osl, rfl, lk, hcd⟩ := F.ex
  have lenV : ∀ vs H Q E, upSp K sp vs H Q E → vs.length = ps.length := fun vs H Q E ⟨ds, s, hid, Qd, r, _, h, _⟩ => (Paired.length r).trans (len ds s Qd h)
  refine ⟨lenV, fun A outer s H args us vs Q E hg hr e0 hb r hq => ?_⟩
  have KX : K.In s.heap := e0.mod.kin.keeps fun b o e => (e0.bs b o e).1
  have lim : s.heap.NoLimit := e0.mod.nolimit.keeps fun b o e => (e0.bs b o e).1
  have hkind : ∀ y ∈ ps.zip us, (defScope st).names.lookup y.1 = some .local ∨ ((defScope st).names.lookup y.1 = some .cell ∧ ((cellsFrom (s.heap.objs.size + 1) (defScope st).names []).lookup y.1).isSome = true) := fun y hy =>
    (S.par y.1 (List.of_mem_zip (show (y.1, y.2) ∈ ps.zip us from hy)).1).elim .inl fun q => .inr ⟨q, PySem.W.cellsFrom_some _ _ _ (.inl q)⟩
  refine codeAny_call_function hr.depth (KX _ _ lk) rfl S.co S.gen rfl (PySem.W.codeRec_of KX hcd) (hb _ _ _ _ (wpAny_newFunctionEnv_cells S.kind hkind fun env he s1 x1 => ?_))
  subst he
  refine ⟨lim.keeps x1.toInCall.keep, codeAny_func ?_⟩
  have ht := (hbody cd A outer s H E hg (hr.deeper _)).nox
  have I := inv_start (CX := CX0) (K := K) (mg := mg) (base := base) (E := E) S hr.hd e0 (lenV _ _ _ _ hq) r x1
  obtain ⟨ds, sd, hid, Qd, rd, Sd, hd, gd⟩ := hq
  have rdy : upS K t { nx := fun _ H' => Q .non H', rt := Q } (L2.start N vs) H := by
    refine ⟨startD N ds, sd, hid, { nx := fun _ s' => Qd (.d .none) s', rt := Qd }, re_start rd, Sd, hsp ds sd Qd hd, ?_, gd, ?_, ?_⟩
    · exact fun _ H' _ st' F' S' _ q => gd .non H' _ st' F' S' (.d .non) q
    · exact fun _ _ _ _ _ _ _ q => q.elim
    · exact fun _ _ _ _ _ _ _ q => q.elim
  refine wpAny_mono (ht.run [] s1 (L2.start N vs) H _ I rdy) (fun fl s' hs => ?_) fun e s' hs => hs
  cases fl with
  | ret u =>
    obtain ⟨v, σ', H', J, rv, q⟩ := hs
    exact ⟨v, H', J.os, J.bare, J.base, J.hok, rv, q⟩
  | next =>
    obtain ⟨σ', H', J, q⟩ := hs
    exact ⟨.non, H', J.os, J.bare, J.base, J.hok, rfl, q⟩
  | brk =>
    obtain ⟨_, _, _, q⟩ := hs
    exact False.elim q
  | cont =>
    obtain ⟨_, _, _, q⟩ := hs
    exact False.elim q
end
/-! ### calls of defs -/
section
variable {X : Cx} {k : Nat} {f : Addr} {fd : FuncData} {ps ks : List Str} {sp : SpD} {dds : List D} {ds : List Value} {x : Str} {p pos : Pos} {e : Expr} {es : List Expr} {kws : List Keyword} {t tk : TAd}
theorem run_fg {pins : List (Addr × Obj)} {σ : L2.St} {H : Hp} {s : Shared} {Q : VK} {us ws : List Value} {kw : List (Str × Value)} {vs : List V} {S : Sp} (F : FnG X.prog X.w X.K X.mg X.base k f fd ps S) (hG : X.A.guards = some []) (hr : Room k X.A)
    (I : Inv X pins σ H s) (hb : us.length = ps.length → BindsTo s fd ⟨ws, kw⟩ (ps.zip us)) (r : Vals vs us) (h : S vs H Q E0) : wpAny (model X.prog X.w) X.A (call (.ref f) ws kw) (EP X pins σ Q) X.xe s := by
  have hl : us.length = ps.length := by
    rw [← r.length]
    exact F.len _ _ _ _ h
  refine wpAny_call (codeAny_mono (F.run X.A X.stack s H ⟨ws, kw⟩ us vs Q E0 hG hr I.env0 (hb hl) r h) fun r s' hq => ?_)
  cases r with
  | error e => exact False.elim hq
  | ok fl =>
    cases fl with
    | ret u => exact I.after hq
    | next => exact False.elim hq
    | brk => exact False.elim hq
    | cont => exact False.elim hq
def dFn (sp : SpD) (dds : List D) (t : TAd) : TEd := fun e st Q => t e st fun xs st1 => sp (xs ++ dds) st1 Q
/-- f(e, ..), the rest by defaults -/
theorem pd_fn (F : FnD X.prog X.w X.K X.mg X.base k f fd ps sp) (hG : X.A.guards = some []) (hr : Room k X.A) (hg : Gl X x) (hm : X.mg x = some (.ref f)) (hk : PySem.W.keepIn X.K (.ref f) = true) (hb : Binds X.K fd ps ds)
    (hd : ∃ dvs, Vals dvs ds ∧ ∀ st H, DvsD X.K st H dvs dds) (ha : PDA X (e :: es) t) (hdb : (x == ("__debug__" : Str)) = false := by decide) (he : starEach (e :: es) X.env = (false, eval e X.env) :: starEach es X.env := by rfl)
    (hpl : (backTo pos (starEach es X.env)).any (·.1) = false := by rfl) : PD X (.Call (.Name x p) (e :: es) [] pos) (dFn sp dds t) := by
  refine ⟨fun pins s σ H Q I ⟨en, st, hid, Qd, re, S, h, g⟩ => ?_⟩
  obtain ⟨dvs, hv, hdd⟩ := hd
  refine wpAny_Call_Name_kw (ld_glob I hg hm (PySem.W.callWith_K (h₀ := X.base) I.ok.mod.kin hk (thn (ha.run pos pins s σ H (fun vs H1 => upSp X.K sp (vs ++ dvs) H1 Q E0) I ⟨en, st, hid, _, re, S, h, fun vs H1 ds1 st1 F1 S1 r1 h1 => ?_⟩) fun us s1 ⟨vs, H1, I1, r, q⟩ => ⟨I1.kIn, ?_⟩) he hpl) hdb)
  · exact ⟨_, st1, hid, Qd, DvsD.append r1 (hdd _ _), S1, h1, Go.mono g F1⟩
  · exact run_fg F hG hr I1 (fun hl => hb _ us I1.kIn hl) (r.append hv) q
def pick {α : Type} (ix : List Nat) (xs : List α) : List α := ix.filterMap fun i => xs[i]?
theorem pick_pair {α β : Type} {R : α → β → Prop} {xs : List α} {ys : List β} (r : Paired R xs ys) : ∀ ix : List Nat, Paired R (pick ix xs) (pick ix ys)
  | [] => .nil
  | i :: ix => by
    have ih := pick_pair r ix
    have key : ∀ {xs : List α} {ys : List β} (i : Nat), Paired R xs ys → (xs[i]? = none ∧ ys[i]? = none) ∨ ∃ x y, xs[i]? = some x ∧ ys[i]? = some y ∧ R x y := by
      intro xs ys i r
      induction r generalizing i with
      | nil => exact .inl ⟨by simp, by simp⟩
      | cons h t ih =>
        cases i with
        | zero => exact .inr ⟨_, _, rfl, rfl, h⟩
        | succ i => simpa using ih i
    unfold pick at ih ⊢
    rw [List.filterMap_cons, List.filterMap_cons]
    rcases key i r with ⟨h1, h2⟩ | ⟨x, y, h1, h2, h3⟩
    · rw [h1, h2]
      exact ih
    · rw [h1, h2]
      exact .cons h3 ih
/-- the keywords' values -/
abbrev PDK (X : Cx) (kws : List Keyword) (t : TAd) : Prop := PK X kws (upA X.K t)
theorem PK.imp {X : Cx} {kws : List Keyword} {t t' : TA} (h : PK X kws t) (i : ∀ σ H Q, t' σ H Q → t σ H Q) : PK X kws t' := ⟨fun pos pins s σ H Q I w => h.run pos pins s σ H Q I (i σ H Q w)⟩
theorem pdk_nil : PDK X [] dNil := PK.imp pk_nil fun σ H Q ⟨e, st, hid, Qd, re, S, h, k⟩ => k [] H [] st (Fr.refl _ _) S .nil h
theorem pdk_cons {nm : Option Str} {kpos : Pos} {te : TEd} (ha : PD X e te) (hr : PDK X kws t) : PDK X (⟨nm, e, kpos⟩ :: kws) (dCons te t) :=
  PK.imp (pk_cons ha hr) fun σ H Q ⟨e, st, hid, Qd, re, S, h, k⟩ => ⟨e, st, hid, _, re, S, h, fun v1 H1 d1 st1 F1 S1 r1 h1 => ⟨e, st1, hid, _, re.mono F1 S.sr, S1, h1, fun vs H2 ds st2 F2 S2 r2 h2 =>
    k _ H2 (d1 :: ds) st2 (Fr.trans F1 F2) S2 (.cons (r1.mono F2 S1.sr) r2) h2⟩⟩
def dFnK (sp : SpD) (ix : List Nat) (t : TAd) : TEd := fun e st Q => t e st fun xs st1 => sp (pick ix xs) st1 Q
/-- f(k = v, ..), all by keywords -/
theorem pd_fnK (F : FnD X.prog X.w X.K X.mg X.base k f fd ps sp) (hG : X.A.guards = some []) (hr : Room k X.A) (hg : Gl X x) (hm : X.mg x = some (.ref f)) (hk : PySem.W.keepIn X.K (.ref f) = true) (ix : List Nat)
    (hb : ∀ (s : Shared) (ws : List Value), ws.length = ks.length → BindsTo s fd ⟨[], ks.zip ws⟩ (ps.zip (pick ix ws))) (hn : (pick ix ks).length = ps.length → True) (hkw : PDK X kws t)
    (hall : (backToKw pos (keywordEach kws X.env)).all (·.1.isSome) = true := by rfl) (hks : (backToKw pos (keywordEach kws X.env)).filterMap (·.1) = ks := by rfl) (hl : ∀ us : List Value, (pick ix us).length = ps.length → us.length = ks.length)
    (hdb : (x == ("__debug__" : Str)) = false := by decide) (hpl : (backToKw pos (keywordEach kws X.env)).any (·.1.isNone) = false := by rfl) : PD X (.Call (.Name x p) [] kws pos) (dFnK sp ix t) := by
  refine ⟨fun pins s σ H Q I ⟨en, st, hid, Qd, re, S, h, g⟩ => ?_⟩
  refine wpAny_Call_Name_kw (ld_glob I hg hm (PySem.W.callWith_KW0 (h₀ := X.base) I.ok.mod.kin hk hall (thn (hkw.run pos pins s σ H (fun vs H1 => upSp X.K sp (pick ix vs) H1 Q E0) I ⟨en, st, hid, _, re, S, h, fun vs H1 ds1 st1 F1 S1 r1 h1 => ?_⟩) fun us s1 ⟨vs, H1, I1, r, q⟩ => ⟨I1.kIn, ?_⟩) hpl) hdb)
  · exact ⟨_, st1, hid, Qd, pick_pair r1 ix, S1, h1, Go.mono g F1⟩
  · rw [hks]
    exact run_fg F hG hr I1 (fun hl' => hb s1 us (hl us hl')) (pick_pair r ix) q
end
end DL
namespace DL
open PySem PySem.Spec PyProof.Rows L2
/-- the law's call, from its def's promise -/
theorem lawG {P : Program} {w : World} {K : PySem.W.Frag} {mg mb : Str → Option Value} {k : Nat} {fa a : Addr} {fd : FuncData} {x : Str} {sp : SpD} {s₁ : Shared} {vs : List Value} {ns : List Int}
    (KX : K.In s₁.heap) (hns : s₁.heap.Ns mainGlobals mg) (hbn : s₁.heap.Ns builtinsNs mb) (hbb : ∀ x : Str, x ≠ "__name__" → mb x = bootBuiltins x) (hlim : s₁.heap.NoLimit) (hgens : s₁.gens = #[])
    (ha : s₁.heap.get? a = some { cls := .type "list", data := .seq vs.toArray }) (hi : IntsAre vs ns) (hl : ns.length ≤ sizeLine) (hr : Room k callerA)
    (F : ∀ base : Heap, K.In base → base.Ns mainGlobals mg → FnD P w K mg base k fa fd [x] sp) (hbind : ∀ (s : Shared) (u : Value), BindsTo s fd ⟨[u], []⟩ [(x, u)])
    (hsp : sp [.scr ns] (fun _ => none) fun d _ => d = .d (.bool true)) :
    codeAny (model P w) callerA (.call (.ref fa) ⟨[.ref a], []⟩) (fun r s' => r = .ok (.ret (.bool true)) ∧ OldK s₁.heap s'.heap ∧ s'.os = s₁.os ∧ AllBare s'.gens) s₁ := by
  have rv := vals_ints hi
  have lenV := hi.length
  have core : ∀ H : Hp, Only H → DvD K (fun _ => none) H (.ref a) (.scr ns) → HOk P w H s₁.heap → (∀ b, H b ≠ none → b = a) → (H a ≠ none → K.lookup a = none) →
      codeAny (model P w) callerA (.call (.ref fa) ⟨[.ref a], []⟩) (fun r s' => r = .ok (.ret (.bool true)) ∧ OldK s₁.heap s'.heap ∧ s'.os = s₁.os ∧ AllBare s'.gens) s₁ := by
    intro H hO hS hok hA hK
    have only : ∀ b, H b = none ∨ b = a := fun b => by
      cases q : H b with
      | none => exact .inl rfl
      | some u => exact .inr (hA b (by rw [q]; simp))
    have base_of : ∀ {b : Addr} {o : Obj}, s₁.heap.get? b = some o → H b = none → (hidT s₁.heap H).get? b = some o := fun e n => hidT_get e n
    have noA : ∀ {b : Addr} {o : Obj} {es : Array DictEntry} {ep : Nat}, s₁.heap.get? b = some o → o.data = .dict es ep → H b = none := fun {b o es ep} e d => by
      rcases only b with z | z
      · exact z
      · subst z
        rw [ha] at e
        cases e
        exact absurd (show Data.seq vs.toArray _ = Data.dict es ep from d) (fun z => nomatch z)
    have nsK : ∀ {b : Addr} {m : Str → Option Value}, s₁.heap.Ns b m → (hidT s₁.heap H).Ns b m := fun {b m} ⟨o, es, ep, e, d, r⟩ => ⟨o, es, ep, base_of e (noA e d), d, r⟩
    have hKb : K.In (hidT s₁.heap H) := fun b o e => base_of (KX b o e) (by
      rcases only b with z | z
      · exact z
      · subst z
        cases q : H b with
        | none => rfl
        | some u =>
          rw [hK (by rw [q]; simp)] at e
          cases e)
    have hM : Mod K mg (hidT s₁.heap H) := ⟨hKb, nsK hns, ⟨mb, nsK hbn, hbb⟩, let ⟨mc, h1, h2⟩ := hlim; ⟨mc, nsK h1, h2⟩⟩
    have e0 : Env0 P w K mg (hidT s₁.heap H) callerA [] s₁ H := ⟨rfl, hM, fun b o e => of_hidT e, Nat.le_of_eq (hidT_size _ _), trivial, fun b hb => absurd (show b ∈ ([] : List Addr) from hb) (by simp), hok, .of_eq hgens⟩
    have S0 : Sx K (fun _ => none) (fun _ => none) H := ⟨fun _ _ => rfl, fun b ds z => by cases z⟩
    have hq : upSp K sp [.ref a] H (fun v _ => v = .bl true) (fun _ _ _ => False) := ⟨[.scr ns], (fun _ => none), (fun _ => none), (fun d _ => d = .d (.bool true)), .cons (show DvD K (jn (fun _ => none) (fun _ => none)) H (.ref a) (.scr ns) from hS) .nil, S0, hsp, fun v H' d st' F' S' r q => by
      subst q
      cases r with
      | d r =>
        cases r with
        | bl b => rfl⟩
    refine codeAny_mono ((F _ hKb (nsK hns)).run callerA [] s₁ H ⟨[.ref a], []⟩ [.ref a] [.ref a] _ _ rfl hr e0 (hbind s₁ (.ref a)) (.cons rfl .nil) hq) fun r s' h => ?_
    cases r with
    | error e => exact False.elim h
    | ok fl =>
      cases fl with
      | next => exact False.elim h
      | brk => exact False.elim h
      | cont => exact False.elim h
      | ret u =>
        obtain ⟨v, H', os, bare, un, hok', r', q⟩ := h
        cases (show v = .bl true from q)
        cases (show u = Value.bool true from r')
        refine ⟨rfl, OldK.of_keep fun b o e => ?_, os, bare⟩
        cases q : H b with
        | none => exact un.keep b o e q (by intro z; exact absurd (show b ∈ ([] : List Addr) from z) (by simp)) (by simp)
        | some u =>
          rcases hO b with z | ⟨ob, xs, z⟩
          · rw [q] at z
            cases z
          · obtain ⟨e1, _⟩ := hok b _ z
            obtain ⟨e2, _⟩ := hok' b _ (un.frzs b ob _ z)
            rw [e] at e1
            cases e1
            exact e2
  cases hk : K.lookup a with
  | some o =>
    have e := KX a o hk
    rw [ha] at e
    cases e
    have hS : SqL K (fun _ => none) a (ns.map V.int) := .inr ⟨_, vs.toArray, _, hk, rfl, rfl, rfl, by rw [List.size_toArray, lenV]; exact hl, by simpa using rv⟩
    exact core (fun _ => none) (fun _ => .inl rfl) (.scr hS (.inr hS)) (fun b u z => by cases z) (fun b z => absurd rfl z) fun z => absurd rfl z
  | none =>
    have h1 : ∀ {b}, b = a → (if b = a then some (HO.frz { cls := .type "list", data := .seq vs.toArray } (.lst (ns.map V.int))) else none) = some (HO.frz { cls := .type "list", data := .seq vs.toArray } (.lst (ns.map V.int))) := fun h => if_pos h
    refine core (fun b => if b = a then some (.frz { cls := .type "list", data := .seq vs.toArray } (.lst (ns.map V.int))) else none) (fun b => ?_) (.scr (.inl (.inr ⟨_, if_pos rfl⟩)) (.inl ⟨_, if_pos rfl⟩)) (fun b u z => ?_) (fun b z => ?_) fun _ => hk
    · by_cases hb : b = a
      · exact .inr ⟨_, _, if_pos hb⟩
      · exact .inl (if_neg hb)
    · by_cases hb : b = a
      · have z' := (if_pos hb).symm.trans z
        cases z'
        subst hb
        exact ⟨ha, by rw [List.length_map]; exact hl, vs, _, rv, ha⟩
      · have z' := (if_neg hb).symm.trans z
        cases z'
    · by_cases hb : b = a
      · exact hb
      · exact absurd (if_neg hb) z
/-- the goal that k_head leaves -/
theorem walkG {l : PySem.W.OpenLaw} {n k : Nat} {q : Program} {loose : List Str} {XP : (Str → Option Value) → Heap → Prop} {YP : World → Heap → Prop} {d : DefRec} {K : Params → PySem.W.Frag} {sp : SpD} {x : Str}
    (hn : l.most = some n) (hn2 : n ≤ sizeLine) (hdf : d.params.defaults = []) (hr : Room k callerA) (hY : ∀ (w : World) (h : Heap), YP w h → (K w.params).In h)
    (F : ∀ (w : World) (mg : Str → Option Value) (fa : Addr) (h : Heap), (K w.params).In h → h.Ns mainGlobals mg → mg d.name = some (.ref fa) →
      ∃ fd : FuncData, (∀ (s : Shared) (u : Value), BindsTo s fd ⟨[u], []⟩ [(x, u)]) ∧ ∀ base : Heap, (K w.params).In base → base.Ns mainGlobals mg → FnD l.prog w (K w.params) mg base k fa fd [x] sp)
    (hsp : ∀ ns : List Int, ns.length ≤ n → sp [.scr ns] (fun _ => none) fun d _ => d = .d (.bool true)) :
    PySem.W.WalkO q loose XP YP l.row.toRowW d [] (fun f vs => PySem.call f vs) := by
  refine Att.attach_call hn hdf fun w s₀ s₁ mg mb fa o pm cd doc a vs ns G Y ho hd hcd hmg hobj hints hlen hg => ?_
  obtain ⟨fd, hb, hF⟩ := F w mg fa _ (hY w _ Y) G.T.g hmg
  exact lawG (hY w _ Y) G.T.g G.T.b G.T.builtins G.T.nolimit hg hobj hints (Nat.le_trans hlen hn2) hr hF hb (hsp ns hlen)
end DL
namespace DL
open PySem PySem.Spec PyProof.Rows L2
theorem bt_len : bootBuiltins "len" = some (.builtin "len") := by decide +kernel
theorem bt_abs : bootBuiltins "abs" = some (.builtin "abs") := by decide +kernel
theorem bt_divmod : bootBuiltins "divmod" = some (.builtin "divmod") := by decide +kernel
theorem bt_all : bootBuiltins "all" = some (.builtin "all") := by decide +kernel
theorem bt_repr : bootBuiltins "repr" = some (.builtin "repr") := by decide +kernel
theorem bt_min : bootBuiltins "min" = some (.builtin "min") := by decide +kernel
theorem bt_max : bootBuiltins "max" = some (.builtin "max") := by decide +kernel
theorem bt_int : bootBuiltins "int" = some (.type "int") := by decide +kernel
theorem bt_bool : bootBuiltins "bool" = some (.type "bool") := by decide +kernel
theorem bt_str : bootBuiltins "str" = some (.type "str") := by decide +kernel
theorem bt_list : bootBuiltins "list" = some (.type "list") := by decide +kernel
theorem bt_tuple : bootBuiltins "tuple" = some (.type "tuple") := by decide +kernel
theorem bt_isinstance : bootBuiltins "isinstance" = some (.builtin "isinstance") := by decide +kernel
/-- {}, and a dict of one written pair -/
def dDict (ps : List (PyData × PyData)) : TEd := fun _ st Q => Q (.d (.dict ps)) st
theorem pd_dict0 {X : Cx} {pos : Pos} : PD X (.Dict [] [] pos) (dDict []) := PE.imp pe_dnewK fun σ H Q ⟨e, st, hid, Qd, re, S, h, k⟩ p hp =>
  Go.new k S hp (.d (.dic (kvs := []) (ps := []) upd_same (S.sr.free0 hp) .nil .nil)) h
theorem pd_dict1 {X : Cx} {pos p1 p2 : Pos} {x : Str} {i : Int} {j j2 : Nat} : PD X (.Dict [some (.Constant (.str x) j p1)] [.Constant (.int i) j2 p2] pos) (dDict [(.str x, .int i)]) :=
  PE.imp (pe_disp (pps_cons pe_str pe_int pps_nil) rfl rfl (by simp) (by show 1 ≤ 15; omega)) fun σ H Q ⟨e, st, hid, Qd, re, S, h, k⟩ p hp => by
    refine ⟨upd_same, [(Sum.inr x, .int i)], rfl, by show 1 ≤ 15; omega, ?_⟩
    rw [upd_upd]
    exact Go.new k S hp (.d (.dic (kvs := [(Sum.inr x, .int i)]) (ps := [(.str x, .int i)]) upd_same (S.sr.free0 hp) (.cons (.str x) .nil) (.cons (.int i) .nil))) h
theorem u65 {k : Nat} {A : Around} (r : Room k A) : A.units + 65 < cLine := by
  have := r.un
  omega
/-- a def of the text, callable with a promise -/
structure Can (P : Program) (w : World) (K : PySem.W.Frag) (mg : Str → Option Value) (base : Heap) (k : Nat) (x : Str) (st : Stmt) (ps : List Str) (sp : SpD) : Prop where
  ex : ∃ f fd, FnD P w K mg base k f fd ps sp ∧ mg x = some (.ref f) ∧ Fun K x x st f fd ∧ Binds K fd ps []
/-- where it stands -/
structure Has (K : PySem.W.Frag) (mg : Str → Option Value) (x : Str) (st : Stmt) : Prop where
  ex : ∃ f fd, mg x = some (.ref f) ∧ Fun K x x st f fd
section
variable {P : Program} {w : World} {K : PySem.W.Frag} {mg : Str → Option Value} {base : Heap}
theorem can_of {x : Str} {st : Stmt} {N ps : List Str} {k : Nat} {sp : SpD} {t : TSd} (F : Has K mg x st) (S : FnScope N ps (defScope st)) (len : ∀ ds s Q, sp ds s Q → ds.length = ps.length)
    (bind : ∀ (kV doc pm : Value) (an : Option Addr) (cdv ct : Value) (us : List Value), us.length = ps.length → bindArgs (PySem.W.fnOf x x (defArgs st) (defBody st) (defScope st) .none kV doc pm an cdv ct) ⟨us, []⟩ = pure (ps.zip us))
    (hbody : ∀ (f : Addr) (cd : Value) (A : Around) (outer : List Env) (s : Shared) (H : Hp) (E : XK), A.guards = some [] → Room k (A.deeper (envOfC x (defScope st) s.heap.objs.size f cd)) → PDSs (cxD P w K mg base N x (defScope st) f cd A outer s H E) (defBody st) t)
    (hsp : ∀ ds s Q, sp ds s Q → t { nx := fun _ s' => Q (.d .none) s', rt := Q } (startD N ds) s) : Can P w K mg base (k + 1) x st ps sp := by
  obtain ⟨f, fd, hm, F⟩ := F.ex
  exact ⟨f, fd, fnD_ok F S len (hbody f) hsp, hm, F, F.binds bind⟩
theorem Can.imp {x : Str} {st : Stmt} {ps : List Str} {k : Nat} {sp sp' : SpD} (C : Can P w K mg base k x st ps sp) (i : ∀ ds st Q, sp' ds st Q → sp ds st Q) : Can P w K mg base k x st ps sp' := by
  obtain ⟨f, fd, F, h⟩ := C.ex
  exact ⟨f, fd, FnD.imp F i, h⟩
theorem Can.lift {x : Str} {st : Stmt} {ps : List Str} {j k : Nat} {sp : SpD} (C : Can P w K mg base j x st ps sp) (h : j ≤ k) : Can P w K mg base k x st ps sp := by
  obtain ⟨f, fd, F, h'⟩ := C.ex
  exact ⟨f, fd, FnG.mono F h, h'⟩
end
section
variable {X : Cx} {k : Nat} {ps ks : List Str} {sp : SpD} {x : Str} {st : Stmt} {p pos : Pos} {e : Expr} {es : List Expr} {kws : List Keyword} {t tk : TAd}
def dFn0 (sp : SpD) (t : TAd) : TEd := fun e st Q => t e st fun xs st1 => sp xs st1 Q
theorem pd_call (C : Can X.prog X.w X.K X.mg X.base k x st ps sp) (hG : X.A.guards = some []) (hr : Room k X.A) (hg : Gl X x) (ha : PDA X (e :: es) t) (hdb : (x == ("__debug__" : Str)) = false := by decide)
    (he : starEach (e :: es) X.env = (false, eval e X.env) :: starEach es X.env := by rfl) (hpl : (backTo pos (starEach es X.env)).any (·.1) = false := by rfl) : PD X (.Call (.Name x p) (e :: es) [] pos) (dFn0 sp t) := by
  obtain ⟨f, fd, F, hm, Fn, B⟩ := C.ex
  refine PE.imp (pd_fn (dds := []) F hG hr hg hm Fn.kp B ⟨[], .nil, fun _ _ => .nil⟩ ha hdb he hpl) fun σ H Q ⟨e, s, hid, Qd, re, S, h, k⟩ => ⟨e, s, hid, Qd, re, S, ?_, k⟩
  have ee : (fun xs st1 => sp (xs ++ []) st1 Qd) = fun xs st1 => sp xs st1 Qd := by
    funext xs st1
    rw [List.append_nil]
  show t e s (fun xs st1 => sp (xs ++ []) st1 Qd)
  rw [ee]
  exact h
theorem pd_callK (C : Can X.prog X.w X.K X.mg X.base k x st ps sp) (hG : X.A.guards = some []) (hr : Room k X.A) (hg : Gl X x) (ix : List Nat)
    (hb : ∀ (kV doc pm : Value) (an : Option Addr) (cdv ct : Value) (ws : List Value), ws.length = ks.length → bindArgs (PySem.W.fnOf x x (defArgs st) (defBody st) (defScope st) .none kV doc pm an cdv ct) ⟨[], ks.zip ws⟩ = pure (ps.zip (pick ix ws)))
    (hkw : PDK X kws t)
    (hall : (backToKw pos (keywordEach kws X.env)).all (·.1.isSome) = true := by rfl) (hks : (backToKw pos (keywordEach kws X.env)).filterMap (·.1) = ks := by rfl)
    (hdb : (x == ("__debug__" : Str)) = false := by decide) (hpl : (backToKw pos (keywordEach kws X.env)).any (·.1.isNone) = false := by rfl) (hlen : ∀ e s Q, t e s Q → t e s fun xs s' => xs.length = ks.length ∧ Q xs s') : PD X (.Call (.Name x p) [] kws pos) (dFnK sp ix t) := by
  obtain ⟨f, fd, F, hm, Fn, B⟩ := C.ex
  obtain ⟨oc, od, kV, doc, pm, an, cd, ct, osl, rfl, lk, hcd⟩ := Fn.ex
  refine ⟨fun pins s σ H Q I ⟨en, sd, hid, Qd, re, S, h, g⟩ => ?_⟩
  refine wpAny_Call_Name_kw (ld_glob I hg hm (PySem.W.callWith_KW0 (h₀ := X.base) I.ok.mod.kin Fn.kp hall (thn (hkw.run pos pins s σ H (fun vs H1 => vs.length = ks.length ∧ upSp X.K sp (pick ix vs) H1 Q E0) I ⟨en, sd, hid, _, re, S, hlen _ _ _ h, fun vs H1 ds1 st1 F1 S1 r1 ⟨hl1, h1⟩ => ?_⟩) fun us s1 ⟨vs, H1, I1, r, hl, q⟩ => ⟨I1.kIn, ?_⟩) hpl) hdb)
  · exact ⟨(Paired.length r1).trans hl1, _, st1, hid, Qd, pick_pair r1 ix, S1, h1, Go.mono g F1⟩
  · rw [hks]
    exact run_fg F hG hr I1 (fun _ => .of_eq (hb kV doc pm an cd ct us (by rw [← r.length]; exact hl))) (pick_pair r ix) q
end
end DL
namespace DL
open PySem PySem.Spec PyProof.Rows L2
/-! ### readings, run -/
theorem frz_d {Q : Kd} {x : PyData} {st : Sto} : frz Q (.d x) st = Q (.d x) st := propext ⟨fun h => h.elim _root_.id fun ⟨a, xs, z, _⟩ => (nomatch z), .inl⟩
theorem var_zero {d : D} {e : Ed} {st : Sto} {Q : Kd} : dVar 0 (some d :: e) st Q = Q d st := propext ⟨fun ⟨d', h, q⟩ => by
  cases h
  exact q, fun q => ⟨d, rfl, q⟩⟩
theorem var_succ {n : Nat} {x : Option D} {e : Ed} {st : Sto} {Q : Kd} : dVar (n + 1) (x :: e) st Q = dVar n e st Q := rfl
theorem var_set {i : Nat} {d : D} {e : Ed} {st : Sto} {Q : Kd} (h : i < e.length) : dVar i (e.set i (some d)) st Q = Q d st := propext ⟨fun ⟨d', h', q⟩ => by
  rw [List.getElem?_set_self h] at h'
  cases h'
  exact q, fun q => ⟨d, List.getElem?_set_self h, q⟩⟩
theorem var_ne {i j : Nat} {x : Option D} {e : Ed} {st : Sto} {Q : Kd} (h : j ≠ i) : dVar i (e.set j x) st Q = dVar i e st Q := by
  unfold dVar
  rw [List.getElem?_set_ne h]
theorem nil_go {e : Ed} {st : Sto} {Q : Ed → Sto → Prop} : hNil [] e st Q = Q e st := propext ⟨fun h => h.2, fun h => ⟨rfl, h⟩⟩
theorem put_put {st : Sto} {a : Addr} {xs ys : List D} : put (put st a xs) a ys = put st a ys := by
  funext b
  by_cases h : b = a
  · rw [h, put_same, put_same]
  · rw [put_ne h, put_ne h, put_ne h]
theorem own_some {d : PyData} {st : Sto} : (∀ a, D.d d = .own a → (st a).isSome = true) = True := propext ⟨fun _ => trivial, fun _ a z => nomatch z⟩
theorem kit_all {T : String} (hT : ∀ t ∈ ["NoneType", "bool", "int", "str", "tuple", "dict", "list"], (kitB t T).isSome = true) (d : D) : (kitB (tyD d) T).isSome = true := by
  refine hT _ ?_
  cases d with
  | own a => simp [tyD]
  | scr ns => simp [tyD]
  | d x => cases x <;> simp [tyD]
theorem kit_int (d : D) : ((kitB (tyD d) "int").isSome = true) = True := eq_true (kit_all (by decide +kernel) d)
theorem kit_bool (d : D) : ((kitB (tyD d) "bool").isSome = true) = True := eq_true (kit_all (by decide +kernel) d)
theorem kit_tuple (d : D) : ((kitB (tyD d) "tuple").isSome = true) = True := eq_true (kit_all (by decide +kernel) d)
theorem kit_str (d : D) : ((kitB (tyD d) "str").isSome = true) = True := eq_true (kit_all (by decide +kernel) d)
theorem is_int (x : PyData) : isT "int" (.d x) = match x with
    | .int _ => true
    | .bool _ => true
    | _ => false := by
  cases x with
  | none => exact (by decide +kernel : (kitB "NoneType" "int").getD false = false)
  | bool _ => exact (by decide +kernel : (kitB "bool" "int").getD false = true)
  | int _ => exact (by decide +kernel : (kitB "int" "int").getD false = true)
  | str _ => exact (by decide +kernel : (kitB "str" "int").getD false = false)
  | list _ => exact (by decide +kernel : (kitB "list" "int").getD false = false)
  | tuple _ => exact (by decide +kernel : (kitB "tuple" "int").getD false = false)
  | dict _ => exact (by decide +kernel : (kitB "dict" "int").getD false = false)
theorem is_bool (x : PyData) : isT "bool" (.d x) = match x with
    | .bool _ => true
    | _ => false := by
  cases x with
  | none => exact (by decide +kernel : (kitB "NoneType" "bool").getD false = false)
  | bool _ => exact (by decide +kernel : (kitB "bool" "bool").getD false = true)
  | int _ => exact (by decide +kernel : (kitB "int" "bool").getD false = false)
  | str _ => exact (by decide +kernel : (kitB "str" "bool").getD false = false)
  | list _ => exact (by decide +kernel : (kitB "list" "bool").getD false = false)
  | tuple _ => exact (by decide +kernel : (kitB "tuple" "bool").getD false = false)
  | dict _ => exact (by decide +kernel : (kitB "dict" "bool").getD false = false)
theorem is_tuple (x : PyData) : isT "tuple" (.d x) = match x with
    | .tuple _ => true
    | _ => false := by
  cases x with
  | none => exact (by decide +kernel : (kitB "NoneType" "tuple").getD false = false)
  | bool _ => exact (by decide +kernel : (kitB "bool" "tuple").getD false = false)
  | int _ => exact (by decide +kernel : (kitB "int" "tuple").getD false = false)
  | str _ => exact (by decide +kernel : (kitB "str" "tuple").getD false = false)
  | list _ => exact (by decide +kernel : (kitB "list" "tuple").getD false = false)
  | tuple _ => exact (by decide +kernel : (kitB "tuple" "tuple").getD false = true)
  | dict _ => exact (by decide +kernel : (kitB "dict" "tuple").getD false = false)
theorem is_str (x : PyData) : isT "str" (.d x) = match x with
    | .str _ => true
    | _ => false := by
  cases x with
  | none => exact (by decide +kernel : (kitB "NoneType" "str").getD false = false)
  | bool _ => exact (by decide +kernel : (kitB "bool" "str").getD false = false)
  | int _ => exact (by decide +kernel : (kitB "int" "str").getD false = false)
  | str _ => exact (by decide +kernel : (kitB "str" "str").getD false = true)
  | list _ => exact (by decide +kernel : (kitB "list" "str").getD false = false)
  | tuple _ => exact (by decide +kernel : (kitB "tuple" "str").getD false = false)
  | dict _ => exact (by decide +kernel : (kitB "dict" "str").getD false = false)
theorem line_small {n : Nat} (h : n ≤ 1000) : (n ≤ sizeLine) = True := eq_true (Nat.le_trans h (by decide))
theorem pures_nil : pures [] = some [] := rfl
theorem pures_cons {x : PyData} {r : List D} : pures (.d x :: r) = (pures r).map (x :: ·) := rfl
theorem no_own {p : Prop} : (∀ a : Addr, False → p) = True := propext ⟨fun _ => trivial, fun _ _ z => z.elim⟩
theorem no_own2 {p : Addr → Prop} : (∀ a : Addr, False → p a) = True := propext ⟨fun _ => trivial, fun _ _ z => z.elim⟩
theorem eqv_int {i j : Int} : (PyData.int i).eqv (.int j) = decide (i = j) := by
  show (i == j) = _
  rw [Bool.eq_iff_iff]
  simp
theorem sh_int {i : Int} : (SeqAt.shaped (.int i) = true) = True := eq_true (by simp [SeqAt.shaped, PyData.canLay0, PyData.depth])
theorem sh_bool {i : Bool} : (SeqAt.shaped (.bool i) = true) = True := eq_true (by simp [SeqAt.shaped, PyData.canLay0, PyData.depth])
theorem ixt_0 {a : PyData} {r : List PyData} {st : Sto} {Q : Kd} : rIxD (.d (.tuple (a :: r))) (.d (.int 0)) st Q = Q (.d a) st := propext ⟨fun h => by
  obtain ⟨v, h, q⟩ := h
  have e : atI (a :: r) 0 = some a := atI_nat (j := 0) rfl
  rw [e] at h
  cases h
  exact q, fun q => ⟨_, atI_nat (j := 0) rfl, q⟩⟩
theorem ixl_0 {a : PyData} {r : List PyData} {st : Sto} {Q : Kd} : rIxD (.d (.list (a :: r))) (.d (.int 0)) st Q = Q (.d a) st := propext ⟨fun h => by
  obtain ⟨ds, v, e, h, q⟩ := h
  cases e
  have e : atI ((a :: r).map D.d) 0 = some (D.d a) := atI_nat (j := 0) rfl
  rw [e] at h
  cases h
  exact q, fun q => ⟨_, _, rfl, atI_nat (j := 0) rfl, q⟩⟩
theorem ixt_1 {a b : PyData} {r : List PyData} {st : Sto} {Q : Kd} : rIxD (.d (.tuple (a :: b :: r))) (.d (.int 1)) st Q = Q (.d b) st := propext ⟨fun h => by
  obtain ⟨v, h, q⟩ := h
  have e : atI (a :: b :: r) 1 = some b := atI_nat (j := 1) rfl
  rw [e] at h
  cases h
  exact q, fun q => ⟨_, atI_nat (j := 1) rfl, q⟩⟩
theorem ixl_1 {a b : PyData} {r : List PyData} {st : Sto} {Q : Kd} : rIxD (.d (.list (a :: b :: r))) (.d (.int 1)) st Q = Q (.d b) st := propext ⟨fun h => by
  obtain ⟨ds, v, e, h, q⟩ := h
  cases e
  have e : atI ((a :: b :: r).map D.d) 1 = some (D.d b) := atI_nat (j := 1) rfl
  rw [e] at h
  cases h
  exact q, fun q => ⟨_, _, rfl, atI_nat (j := 1) rfl, q⟩⟩
theorem ixt_2 {a b c : PyData} {r : List PyData} {st : Sto} {Q : Kd} : rIxD (.d (.tuple (a :: b :: c :: r))) (.d (.int 2)) st Q = Q (.d c) st := propext ⟨fun h => by
  obtain ⟨v, h, q⟩ := h
  have e : atI (a :: b :: c :: r) 2 = some c := atI_nat (j := 2) rfl
  rw [e] at h
  cases h
  exact q, fun q => ⟨_, atI_nat (j := 2) rfl, q⟩⟩
theorem ixl_2 {a b c : PyData} {r : List PyData} {st : Sto} {Q : Kd} : rIxD (.d (.list (a :: b :: c :: r))) (.d (.int 2)) st Q = Q (.d c) st := propext ⟨fun h => by
  obtain ⟨ds, v, e, h, q⟩ := h
  cases e
  have e : atI ((a :: b :: c :: r).map D.d) 2 = some (D.d c) := atI_nat (j := 2) rfl
  rw [e] at h
  cases h
  exact q, fun q => ⟨_, _, rfl, atI_nat (j := 2) rfl, q⟩⟩
theorem ixt_3 {a b c d : PyData} {r : List PyData} {st : Sto} {Q : Kd} : rIxD (.d (.tuple (a :: b :: c :: d :: r))) (.d (.int 3)) st Q = Q (.d d) st := propext ⟨fun h => by
  obtain ⟨v, h, q⟩ := h
  have e : atI (a :: b :: c :: d :: r) 3 = some d := atI_nat (j := 3) rfl
  rw [e] at h
  cases h
  exact q, fun q => ⟨_, atI_nat (j := 3) rfl, q⟩⟩
theorem ixl_3 {a b c d : PyData} {r : List PyData} {st : Sto} {Q : Kd} : rIxD (.d (.list (a :: b :: c :: d :: r))) (.d (.int 3)) st Q = Q (.d d) st := propext ⟨fun h => by
  obtain ⟨ds, v, e, h, q⟩ := h
  cases e
  have e : atI ((a :: b :: c :: d :: r).map D.d) 3 = some (D.d d) := atI_nat (j := 3) rfl
  rw [e] at h
  cases h
  exact q, fun q => ⟨_, _, rfl, atI_nat (j := 3) rfl, q⟩⟩
theorem ixt_4 {a b c d e : PyData} {r : List PyData} {st : Sto} {Q : Kd} : rIxD (.d (.tuple (a :: b :: c :: d :: e :: r))) (.d (.int 4)) st Q = Q (.d e) st := propext ⟨fun h => by
  obtain ⟨v, h, q⟩ := h
  have e : atI (a :: b :: c :: d :: e :: r) 4 = some e := atI_nat (j := 4) rfl
  rw [e] at h
  cases h
  exact q, fun q => ⟨_, atI_nat (j := 4) rfl, q⟩⟩
theorem ixl_4 {a b c d e : PyData} {r : List PyData} {st : Sto} {Q : Kd} : rIxD (.d (.list (a :: b :: c :: d :: e :: r))) (.d (.int 4)) st Q = Q (.d e) st := propext ⟨fun h => by
  obtain ⟨ds, v, e, h, q⟩ := h
  cases e
  have e : atI ((a :: b :: c :: d :: e :: r).map D.d) 4 = some (D.d e) := atI_nat (j := 4) rfl
  rw [e] at h
  cases h
  exact q, fun q => ⟨_, _, rfl, atI_nat (j := 4) rfl, q⟩⟩
/-- a comprehension whose element is a function of the item -/
theorem lcV_pure {ti : TId} {i : Nat} {te : TEd} {e : Ed} {st : Sto} {Q : Kd} (xs : List D) (f : D → PyData) (hti : ∀ R : ItD → Sto → Prop, R ⟨xs, none⟩ st → ti e st R) (hl : xs.length < sizeLine)
    (hf : ∀ d ∈ xs, ∀ K : Kd, K (.d (f d)) st → te (e.set i (some d)) st K) (q : Q (.d (.list (xs.map f))) st) : dLcV ti i dYes te e st Q := by
  refine hti _ ⟨fun j acc st' => st' = st ∧ j ≤ xs.length ∧ acc = (xs.take j).map fun d => D.d (f d), ⟨rfl, Nat.zero_le _, rfl⟩, ?_⟩
  rintro j acc st' ⟨rfl, hj, rfl⟩
  refine ⟨(fun a ds z => nomatch z), fun hd => ?_, fun d hd => ?_⟩
  · have e1 : xs.take j = xs := List.take_of_length_le hd
    rw [e1]
    refine ⟨xs.map f, ?_, q⟩
    rw [show (xs.map fun d => D.d (f d)) = (xs.map f).map D.d by rw [List.map_map]; rfl]
    exact pures_map _
  · have hd' : xs[j]? = some d := hd
    have hlt : j < xs.length := (List.getElem?_eq_some_iff.mp hd').1
    refine (show dYes (e.set i (some d)) st' (fun b s2 => if b = true then te (e.set i (some d)) s2 _ else _) from ?_)
    refine hf d (List.mem_of_getElem? hd') _ ⟨?_, rfl, hlt, ?_⟩
    · rw [List.length_map, List.length_take]
      omega
    · rw [List.take_add_one, hd', List.map_append]
      rfl
/-! ### written data -/
def Val (te : TEd) (e : Ed) : Prop := ∃ x, ∀ st Q, Q (.d x) st → te e st Q
def Vls (t : TAd) (e : Ed) (n : Nat) : Prop := ∃ xs : List PyData, xs.length = n ∧ ∀ st Q, Q (xs.map D.d) st → t e st Q
theorem val_c {x : PyData} {e : Ed} : Val (dC x) e := ⟨x, fun _ _ q => q⟩
theorem val_dict {ps : List (PyData × PyData)} {e : Ed} : Val (dDict ps) e := ⟨.dict ps, fun _ _ q => q⟩
theorem val_var {i : Nat} {x : PyData} {e : Ed} (h : e[i]? = some (some (.d x))) : Val (dVar i) e := ⟨x, fun _ _ q => ⟨_, h, q⟩⟩
theorem val_neg {i : Int} {e : Ed} : Val (dNeg (dC (.int i))) e := ⟨.int (-i), fun _ _ q => q⟩
theorem val_pow {i j : Int} {e : Ed} (h : CPow i j) : Val (dBin rPowD (dC (.int i)) (dC (.int j))) e := ⟨.int (i ^ j.toNat), fun _ _ q => ⟨h, q⟩⟩
theorem vls_nil {e : Ed} : Vls dNil e 0 := ⟨[], rfl, fun _ _ q => q⟩
theorem vls_cons {te : TEd} {t : TAd} {e : Ed} {n : Nat} (h : Val te e) (r : Vls t e n) : Vls (dCons te t) e (n + 1) := by
  obtain ⟨x, hx⟩ := h
  obtain ⟨xs, hl, hr⟩ := r
  exact ⟨x :: xs, by rw [List.length_cons, hl], fun st Q q => hx _ _ (hr _ _ q)⟩
theorem val_tup {t : TAd} {e : Ed} {n : Nat} (r : Vls t e n) (hn : n ≤ 1000) : Val (dTup t) e := by
  obtain ⟨xs, hl, hr⟩ := r
  refine ⟨.tuple xs, fun st Q q => hr _ _ ?_⟩
  show match pures (xs.map D.d) with
    | some ys => (xs.map D.d).length ≤ sizeLine ∧ Q (.d (.tuple ys)) st
    | none => False
  rw [pures_map]
  exact ⟨by rw [List.length_map, hl]; exact Nat.le_trans hn (by decide), q⟩
theorem val_lst {t : TAd} {e : Ed} {n : Nat} (r : Vls t e n) (hn : n ≤ 1000) : Val (dLst t) e := by
  obtain ⟨xs, hl, hr⟩ := r
  exact ⟨.list xs, fun st Q q => hr _ _ ⟨by rw [List.length_map, hl]; exact Nat.le_trans hn (by decide), .inl ⟨xs, pures_map xs, q⟩⟩⟩
theorem val_lstV {t : TAd} {e : Ed} {n : Nat} (r : Vls t e n) (hn : n ≤ 1000) : Val (dLstV t) e := by
  obtain ⟨xs, hl, hr⟩ := r
  refine ⟨.list xs, fun st Q q => hr _ _ ?_⟩
  show match pures (xs.map D.d) with
    | some ys => (xs.map D.d).length ≤ sizeLine ∧ Q (.d (.list ys)) st
    | none => False
  rw [pures_map]
  exact ⟨by rw [List.length_map, hl]; exact Nat.le_trans hn (by decide), q⟩
theorem lstV_then {t : TAd} {e : Ed} {st : Sto} {Q : Kd} {n : Nat} (r : Vls t e n) (hn : n ≤ 1000) (h : ∀ xs : List PyData, xs.length = n → Q (.d (.list xs)) st) : dLstV t e st Q := by
  obtain ⟨xs, hl, hr⟩ := r
  refine hr _ _ ?_
  show match pures (xs.map D.d) with
    | some ys => (xs.map D.d).length ≤ sizeLine ∧ Q (.d (.list ys)) st
    | none => False
  rw [pures_map]
  exact ⟨by rw [List.length_map, hl]; exact Nat.le_trans hn (by decide), h xs hl⟩
theorem lst_then {t : TAd} {e : Ed} {st : Sto} {Q : Kd} {n : Nat} (r : Vls t e n) (hn : n ≤ 1000) (h : ∀ xs : List PyData, xs.length = n → Q (.d (.list xs)) st) : dLst t e st Q := by
  obtain ⟨xs, hl, hr⟩ := r
  exact hr _ _ ⟨by rw [List.length_map, hl]; exact Nat.le_trans hn (by decide), .inl ⟨xs, pures_map xs, h xs hl⟩⟩
end DL
local macro_rules | `(tactic| walk_at "val") => `(tactic| repeat' (first | exact DL.vls_nil | apply DL.vls_cons | exact DL.val_c | exact DL.val_dict | exact DL.val_neg | exact DL.val_var rfl | apply DL.val_tup | apply DL.val_lst | apply DL.val_lstV | exact DL.val_pow ⟨by decide, by decide, by decide⟩ | decide))
local macro_rules | `(tactic| walk_at "st") => `(tactic| simp only [DL.startD, List.map_cons, List.map_nil, List.length_cons, List.length_nil, Nat.reduceAdd, Nat.reduceSub, List.replicate_succ, List.replicate_zero, List.cons_append, List.nil_append, List.append_nil, Nat.sub_self, Nat.zero_add])
local macro_rules | `(tactic| walk_at "go") => `(tactic| simp only [↓DL.dSeq, ↓DL.dNext, ↓DL.dAsg, ↓DL.dRet, ↓DL.dRetN, ↓DL.dIfS, ↓DL.dDrop, ↓DL.dBin, ↓DL.dCons, ↓DL.dNil, ↓DL.dTup, ↓DL.dC, ↓DL.dNeg, ↓DL.dAnd, ↓DL.dOr, ↓DL.dNot, ↓DL.dIf, ↓DL.dTst, ↓DL.asB, ↓DL.dChain, ↓DL.dAndT, ↓DL.dOrT, ↓DL.dNotT, ↓DL.dCall, ↓DL.dFn0, ↓DL.dFnK, ↓DL.dIs, ↓DL.dSl, ↓DL.dNoP, ↓DL.dPart, ↓DL.dRev, ↓DL.dLst, ↓DL.dLstV, ↓DL.cListV, ↓DL.dDict, ↓DL.dPar, ↓DL.dPar3, ↓DL.hTup, ↓DL.hCons, ↓DL.nil_go, ↓DL.hName, ↓DL.hSub, ↓DL.rI2, ↓DL.rSubD, ↓DL.rMulD, ↓DL.rDivD, ↓DL.rModD, ↓DL.rPowD, ↓DL.rLtD, ↓DL.rLeD, ↓DL.rGtD, ↓DL.rGeD, ↓DL.rAddD, ↓DL.ixt_0, ↓DL.ixt_1, ↓DL.ixt_2, ↓DL.ixt_3, ↓DL.ixt_4, ↓DL.ixl_0, ↓DL.ixl_1, ↓DL.ixl_2, ↓DL.ixl_3, ↓DL.ixl_4, ↓DL.rEqV, ↓DL.rNeV, ↓DL.rSlD, ↓DL.cLen, ↓DL.cAbs, ↓DL.cInt, ↓DL.cStrI, ↓DL.cDivmod, ↓DL.cMin, ↓DL.cMax, ↓DL.cGcd, ↓DL.cLcm, ↓DL.cAll, ↓DL.cRepr, ↓DL.cList, ↓DL.cTuple, ↓DL.rC1, ↓DL.rC2, ↓DL.dNever, ↓DL.dIter, ↓DL.dRng1, ↓DL.dRng2, ↓DL.dYes,
  ↓DL.frz_d, ↓DL.var_zero, ↓DL.var_succ, ↓DL.var_set, ↓DL.var_ne, DL.own_some, DL.no_own2, DL.eqv_int, DL.sh_int, DL.sh_bool, DL.kit_int, DL.kit_bool, DL.kit_tuple, DL.kit_str, DL.is_int, DL.is_bool, DL.is_tuple, DL.is_str, DL.pures_nil, DL.pures_cons, Option.map_some, List.length_cons, List.length_nil, List.length_set, List.map_cons, List.map_nil, DL.pick, List.filterMap_cons, List.filterMap_nil,
  true_and, and_true, ite_true, ite_false, if_true, if_false, reduceIte, reduceCtorEq, ne_eq, not_false_eq_true, Nat.reduceAdd, Nat.reduceLT, Nat.reduceEqDiff, decide_eq_true_eq, Bool.not_true, Bool.not_false, Bool.false_eq_true, eq_self])
namespace DL
open PySem PySem.Spec PyProof.Rows L2
/-! ### x in xs, x not in xs -/
def flatP : PyData → Bool
  | .none => true
  | .bool _ => true
  | .int _ => true
  | .str _ => true
  | _ => false
theorem bne_ite (neg b : Bool) : (if neg = true then !b else b) = (neg != b) := by cases neg <;> cases b <;> rfl
section
variable {K : PySem.W.Frag} {st : Sto} {H : Hp}
theorem flat_v {v : V} {x : PyData} (r : Dv K st H v x) (f : flatP x = true) : flatV v = true := by
  cases r <;> first | rfl | exact absurd f Bool.false_ne_true
theorem flat_vs : ∀ {vs : List V} {xs : List PyData}, Dvs K st H vs xs → xs.all flatP = true → vs.all flatV = true
  | _, _, .nil, _ => rfl
  | _, _, .cons h t, f => by
    rw [List.all_cons, Bool.and_eq_true] at f ⊢
    exact ⟨flat_v h f.1, flat_vs t f.2⟩
theorem flat_eq {v w : V} {x y : PyData} (r : Dv K st H v x) (q : Dv K st H w y) (f : flatP x = true) (g : flatP y = true) : eqV v w = PyData.eqv x y := by
  cases r <;> cases q <;> first | (simp only [eqV, PyData.eqv]; done) | exact absurd f Bool.false_ne_true | exact absurd g Bool.false_ne_true | rfl
theorem flat_in {v : V} {x : PyData} (r : Dv K st H v x) (f : flatP x = true) : ∀ {vs : List V} {xs : List PyData}, Dvs K st H vs xs → xs.all flatP = true → inV v vs = xs.any fun z => PyData.eqv z x
  | _, _, .nil, _ => rfl
  | _, _, .cons h t, g => by
    rw [List.all_cons, Bool.and_eq_true] at g
    show (eqV _ v || inV v _) = (PyData.eqv _ x || _)
    rw [flat_eq h r g.1 f, flat_in r f t g.2]
end
def rInV (neg : Bool) : R2d := fun x y st Q => match x with
  | .d a => match y with
    | .d (.tuple xs) => flatP a = true ∧ xs.all flatP = true ∧ Q (.d (.bool (neg != xs.any fun z => PyData.eqv z a))) st
    | y => ∃ xs : List PyData, lstOf y st = some (xs.map D.d) ∧ ((flatP a = true ∧ xs.all flatP = true) ∨ (SeqAt.shaped a = true ∧ SeqAt.shaped (.list xs) = true)) ∧ Q (.d (.bool (neg != xs.any fun z => PyData.eqv z a))) st
  | _ => False
theorem dpAll_of {K : PySem.W.Frag} {st : Sto} {H : Hp} {vs : List V} {xs : List PyData} (r : Dvs K st H vs xs) (h : SeqAt.shaped (.list xs) = true) : DpAll K H vs xs := Dvs.dp r (by simpa [PyData.hasDict] using noDict h)
section
variable {X : Cx}
theorem o_in (hu : X.A.units + 65 < cLine) : OpR X (compareOp .In) (upR X.K (rInV false)) := fun pins s σ H x y v u Q I rx ry ⟨dx, dy, st, hid, Qd, hx, hy, S, w, k⟩ => by
  cases hx with
  | d hx =>
    rename_i a
    dsimp only [rInV] at w
    split at w
    · obtain ⟨p, vs, rfl, h1, r1⟩ := tup_at hy
      refine op_in_seq pins s σ H _ _ v u Q I rx ry ⟨p, vs, rfl, .inr h1, flat_v hx w.1, flat_vs r1 w.2.1, ?_⟩
      rw [bne_ite, flat_in hx w.1 r1 w.2.1]
      exact k.now S (.d (.bl _)) w.2.2
    · obtain ⟨xs, e, c, q⟩ := w
      obtain ⟨p, vs, rfl, h1, r1⟩ := lstOf_at hy S e
      have r1 := Dvs.of r1
      rcases c with c | c
      · refine op_in_seq pins s σ H _ _ v u Q I rx ry ⟨p, vs, rfl, .inl h1, flat_v hx c.1, flat_vs r1 c.2, ?_⟩
        rw [bne_ite, flat_in hx c.1 r1 c.2]
        exact k.now S (.d (.bl _)) q
      · refine op_inD hu pins s σ H _ _ v u Q I rx ry ⟨a, xs, hx.dp (noDict c.1), .lst h1 (dpAll_of r1 c.2), c.1, c.2, ?_⟩
        rw [Bool.false_bne] at q
        exact k.now S (.d (.bl _)) q
  | _ => exact w.elim
theorem o_notin (hu : X.A.units + 65 < cLine) : OpR X (compareOp .NotIn) (upR X.K (rInV true)) := fun pins s σ H x y v u Q I rx ry ⟨dx, dy, st, hid, Qd, hx, hy, S, w, k⟩ => by
  cases hx with
  | d hx =>
    rename_i a
    dsimp only [rInV] at w
    split at w
    · obtain ⟨p, vs, rfl, h1, r1⟩ := tup_at hy
      refine op_notIn_seq pins s σ H _ _ v u Q I rx ry ⟨p, vs, rfl, .inr h1, flat_v hx w.1, flat_vs r1 w.2.1, ?_⟩
      rw [bne_ite, flat_in hx w.1 r1 w.2.1]
      exact k.now S (.d (.bl _)) w.2.2
    · obtain ⟨xs, e, c, q⟩ := w
      obtain ⟨p, vs, rfl, h1, r1⟩ := lstOf_at hy S e
      have r1 := Dvs.of r1
      rcases c with c | c
      · refine op_notIn_seq pins s σ H _ _ v u Q I rx ry ⟨p, vs, rfl, .inl h1, flat_v hx c.1, flat_vs r1 c.2, ?_⟩
        rw [bne_ite, flat_in hx c.1 r1 c.2]
        exact k.now S (.d (.bl _)) q
      · refine op_notInD hu pins s σ H _ _ v u Q I rx ry ⟨a, xs, hx.dp (noDict c.1), .lst h1 (dpAll_of r1 c.2), c.1, c.2, ?_⟩
        rw [Bool.true_bne] at q
        exact k.now S (.d (.bl _)) q
  | _ => exact w.elim
/-! ### i * j, xs * n -/
def rMulX : R2d := fun x y st Q => match x, y with
  | .d (.int i), .d (.int j) => CMulW i j ∧ Q (.d (.int (i * j))) st
  | .d (.list xs), .d (.int n) => 0 ≤ n ∧ n < 1000 ∧ xs.length * n.toNat ≤ sizeLine ∧ Q (.d (.list (List.replicate n.toNat xs).flatten)) st
  | _, _ => False
theorem dvs_rep {K : PySem.W.Frag} {st : Sto} {H : Hp} {vs : List V} {xs : List PyData} (r : Dvs K st H vs xs) : ∀ n : Nat, Dvs K st H (List.replicate n vs).flatten (List.replicate n xs).flatten
  | 0 => .nil
  | n + 1 => by
    rw [List.replicate_succ, List.replicate_succ, List.flatten_cons, List.flatten_cons]
    exact r.append (dvs_rep r n)
theorem o_mulX : OpR X (binaryOp .Mult) (upR X.K rMulX) := fun pins s σ H x y v u Q I rx ry ⟨dx, dy, st, hid, Qd, hx, hy, S, w, k⟩ => by
  unfold rMulX at w
  split at w
  · rename_i i j
    exact o_mul pins s σ H x y v u Q I rx ry ⟨_, _, st, hid, Qd, hx, hy, S, w, k⟩
  · rename_i xs n
    obtain ⟨h0, h1, h2, q⟩ := w
    obtain ⟨a, vs, rfl, h3, r1⟩ := wlOf_at hx S rfl
    have r1 := Dvs.of r1
    cases int_at hy
    refine op_rep pins s σ H _ _ v u Q I rx ry ⟨a, n, vs, rfl, rfl, h3, by omega, by omega, by rw [r1.length]; exact h2, fun p hp => ?_⟩
    exact k.new S hp (.d (.lst upd_same (S.sr.free0 hp) ((dvs_rep r1 _).mono (fr_new hp) S.sr))) q
  · exact w.elim
end
/-! ### enumerate(xs) -/
/-- the tuple at a as it stands at each turn, each item in a new pair -/
def IteT (K : PySem.W.Frag) (a : Addr) : It :=
  ⟨fun i H => ∃ (xs : List V) (x : V), SqT K H a xs ∧ xs[i]? = some x, fun i H v H' => ∃ T x, v = .ref T ∧ H T = none ∧ H' = upd H T (.tup [.int (i : Nat), x]) ∧ ∀ xs, SqT K H a xs → xs[i]? = some x, fun i H => ∃ xs : List V, SqT K H a xs ∧ xs.length ≤ i⟩
section
variable {prog : Program} {w : World} {A : Around} {E : Value → Shared → Prop} {s : Shared}
theorem meets_enumerate_new1 {v : Value} {o : Obj} {H : Heap → Prop} (B : Begins v o H) :
    Meets (Builtin.«enumerate.__new__» ⟨[.type "enumerate", v], []⟩) (fun _ R s => H s.heap ∧
      R (.ok (.ret (.ref (s.heap.push o).objs.size))) { s with heap := (s.heap.push o).push { cls := .type "enumerate", data := .fields #[.none, .bool false, .ref s.heap.objs.size, rawInt 0, .none, .none] } }) :=
  .of_wp fun prog w A R s h => by
    obtain ⟨hp, g, d, tk, os⟩ := s; obtain ⟨h1, h⟩ := h
    have hsub := sub_enumerate
    have q1 : ∀ {A' : Around} {E : Value → Shared → Prop} {Q : Value → Shared → Prop}, Q (.ref hp.objs.size) ⟨hp.push o, g, d, tk, os⟩ → wpAny (model prog w) A' (pyIter v) Q E ⟨hp, g, d, tk, os⟩ :=
      fun q => B.iter prog w _ _ ⟨hp, g, d, tk, os⟩ _ h1 q
    wp_walk using q1
    refine wpAny_stack_any fun st => wpAny_pure ?_
    split
    · rename_i c _ _ _ _ _
      cases (c == Value.type "enumerate")
      · wp_walk using q1
        exact ⟨_, rfl, h⟩
      · wp_walk using q1
        exact ⟨_, rfl, h⟩
    · wp_walk using q1
      exact ⟨_, rfl, h⟩
theorem call_enumerate_1B {v : Value} {o : Obj} {H : Heap → Prop} {Q : Value → Shared → Prop} (B : Begins v o H) (h1 : H s.heap)
    (h : ∀ h', IsEnum h' (s.heap.objs.size + 1) s.heap.objs.size 0 .none → h'.get? s.heap.objs.size = some o → h'.objs.size = s.heap.objs.size + 2 →
      (∀ b o, s.heap.get? b = some o → h'.get? b = some o) → Q (.ref (s.heap.objs.size + 1)) { s with heap := h' }) :
    wpAny (model prog w) A (call (.type "enumerate") [v]) Q E s := by
  refine callType_new F.called_enumerate (by decide) (F.typeCall_enumerate_1 _) (F.newCall_enumerate_1 _) (fun obj => F.args_object_init_2 obj _) F.entry_enumerate_new
    (meets_enumerate_new1 B) ⟨h1, ?_⟩
  have hz : (s.heap.push o).objs.size = s.heap.objs.size + 1 := Heap.size_push ..
  show _ ∧ _
  rw [hz]
  have he : IsEnum ((s.heap.push o).push { cls := .type "enumerate", data := .fields #[.none, .bool false, .ref s.heap.objs.size, rawInt 0, .none, .none] }) (s.heap.objs.size + 1) s.heap.objs.size 0 .none := by
    have := Heap.get?_push_size (s.heap.push o) (o := { cls := .type "enumerate", data := .fields #[.none, .bool false, .ref s.heap.objs.size, rawInt 0, .none, .none] }) rfl
    rw [hz] at this; exact this
  refine ⟨⟨_, he, rfl⟩, h _ he (Heap.get?_push_of_some _ (Heap.get?_push_size _ B.free)) (by rw [Heap.size_push, hz]) fun b o x => Heap.get?_push_of_some _ (Heap.get?_push_of_some _ x)⟩
end
theorem turn_enumT {P : Program} {w : World} {K : PySem.W.Frag} {elts : List Expr} {kk : Nat} {tpos : Pos} (a e it : Addr) :
    Turn P w K (.Tuple elts kk tpos) (IteT K a) [e, it] e (fun i h => (∃ old, IsEnum h e it ((i : Nat) : Int) old) ∧ h.IsTupleIter it a i ∧ e ≠ it ∧ a ≠ it ∧ a ≠ e) where
  mem := by simp
  obj := fun i h st b hb => by
    obtain ⟨⟨old, he⟩, ⟨o, ho, hc, hd⟩, _⟩ := st
    have e' : b = e ∨ b = it := by simpa using hb
    rcases e' with z | z
    · rw [z]; exact ⟨_, he, fun v q => nomatch q⟩
    · rw [z]; exact ⟨o, ho, fun v q => by rw [hd] at q; cases q⟩
  keep := fun i h h' st k => let ⟨⟨old, he⟩, hi, hne⟩ := st; ⟨⟨old, k e (by simp) _ he⟩, hi.at fun o q => k it (by simp) o q, hne⟩
  item := by
    intro X hP hw hK hc i pins s σ H E I hf st hg
    subst hP hw hK
    obtain ⟨⟨old, he⟩, hit, hne, hai, hae⟩ := st
    obtain ⟨xs, x, hq, hx⟩ := hg
    obtain ⟨its, rv, p, hz⟩ := I.tuple hq
    obtain ⟨u, hu, ru⟩ := rv.get hx
    have hel : e < s.heap.objs.size := Heap.lt_size he
    have hil : it < s.heap.objs.size := by obtain ⟨_, q, _⟩ := hit; exact Heap.lt_size q
    have p : s.heap.IsTuple a its.toArray := p
    have D := Draws.tuple (prog := X.prog) (w := X.w) (A := X.A.in1) (I.ok.hd hc) it a hai its.toArray
    have hlt : i < its.toArray.size := by
      have := (List.getElem?_eq_some_iff.mp hu).1
      rw [List.size_toArray]
      exact this
    refine wpAny_pyNext_enum_itemC D he ⟨hit, p⟩ hlt hne (by simp [hne, Ne.symm hae]) fun x' h' tk hx' ho hst' hT hsz hk => ?_
    have ex : x' = u := by
      have h2 : its.toArray[i]? = some u := by simpa using hu
      rw [hx'] at h2
      exact Option.some.inj h2
    subst ex
    refine ⟨_, rfl, wpAny_letOwnedTupleGo_enum (s := { s with heap := h', toks := tk + 1 }) ho fun h'' he' sb => ?_⟩
    have hT2 : h''.get? s.heap.objs.size = some { cls := .type "tuple", data := .seq #[.int i tk, x'] } := (sb.2 _ (Nat.ne_of_gt hel)).trans hT
    have new : ObjOk X.prog X.w (upd H s.heap.objs.size (.tup [.int (i : Nat), x])) h'' s.heap.objs.size (.tup [.int (i : Nat), x]) :=
      ⟨by show 2 ≤ sizeLine; decide, [.int i tk, x'], .cons ⟨_, rfl⟩ (.cons ru .nil), ⟨_, hT2, rfl, _, rfl⟩⟩
    have I1 : Inv X pins σ (upd H s.heap.objs.size (.tup [.int (i : Nat), x])) { s with heap := h'', toks := tk + 1 } :=
      I.turnedNew (ch := [e, it]) (fun b ob hb q => (sb.2 b (fun z => hb (by simp [z]))).trans (hk b ob (fun z => hb (by simp [z])) (fun z => hb (by simp [z])) q)) hf (Nat.le_refl _) new
    refine ⟨.ref s.heap.objs.size, _, I1, rfl, ⟨_, x, rfl, I.hok.fresh (Nat.le_refl _), rfl, fun ys hy => by rw [I.tuple_inj hy hq]; exact hx⟩, ⟨⟨x', ?_⟩, hst'.1.at fun o q => (sb.2 it (Ne.symm hne)).trans q, hne, hai, hae⟩, fun b hb => ?_⟩
    · have e1 : ((i + 1 : Nat) : Int) = (i : Int) + 1 := by omega
      rw [e1]; exact he'
    · have hb' : b < s.heap.objs.size := by
        have e' : b = e ∨ b = it := by simpa using hb
        rcases e' with z | z
        · rw [z]; exact hel
        · rw [z]; exact hil
      rw [upd_ne (Nat.ne_of_lt hb')]
      exact (hf b hb).1
  done := by
    intro X hP hw hK hc i pins s σ H E I hf st hg
    subst hP hw hK
    obtain ⟨⟨old, he⟩, hit, hne, hai, hae⟩ := st
    obtain ⟨xs, hq, hx⟩ := hg
    obtain ⟨its, rv, p, hz⟩ := I.tuple hq
    obtain ⟨f0, f1, f2, f3, f4, f5⟩ := hf it (by simp)
    have hl := rv.length
    have p : s.heap.IsTuple a its.toArray := p
    have hT : s.TypeIs (.ref e) "enumerate" := ⟨_, he, rfl⟩
    unfold pyNext
    refine wpAny_bind (wpAny_attempt (wpAny_callSpecial?_slot (name := Str.ofString "__next__") hT F.slot_enumerate_next
      (wpAny_call_entry F.slot_enumerate_next hT F.entry_enumerate_next ?_ (F.args_enumerate_next_1 _))))
    show wpAny _ _ (field (.ref e) 2 >>= _) _ _ _
    refine wpAny_bind (wpAny_field he rfl (x := .ref it) rfl ?_)
    refine wpAny_bind (wpAny_nextOf_tuple_end (I.ok.hd hc) hit p (by simp; omega) fun h' x eb hx' => ?_)
    obtain ⟨o, ho, hc⟩ := hx'
    refine wpAny_bind (wpAny_isInstance (T := "StopIteration") (b := true) ⟨o, ho, hc⟩ isSubtype_stop ?_)
    exact wpAny_pure ⟨rfl, I.turned (t' := s.toks) (fun b o hb q => eb b o hb q) f0 f1 f3 f4 f5⟩
  self := fun A i s Q E st h => let ⟨⟨_, he⟩, _⟩ := st; wpAny_pyIter_enum he h
/-- enumerate(xs), of a list or a tuple -/
def enumD (ds : List D) : Option (List D) := (pures ds).map fun xs => (List.range xs.length).zipWith (fun (i : Nat) x => D.d (.tuple [.int i, x])) xs
def dEnum (t : TAd) : TId := fun e st R => t e st fun ds st1 => match ds with
  | [.d (.tuple xs)] => R ⟨(List.range xs.length).zipWith (fun (i : Nat) x => D.d (.tuple [.int i, x])) xs, none⟩ st1
  | [.d (.list xs)] => R ⟨(List.range xs.length).zipWith (fun (i : Nat) x => D.d (.tuple [.int i, x])) xs, none⟩ st1
  | [.own a] => ∃ xs : List PyData, st1 a = some (xs.map D.d) ∧ R ⟨(List.range xs.length).zipWith (fun (i : Nat) x => D.d (.tuple [.int i, x])) xs, some (a, xs.map D.d)⟩ st1
  | _ => False
theorem enum_get {xs : List PyData} {i : Nat} {d : D} (h : ((List.range xs.length).zipWith (fun (i : Nat) x => D.d (.tuple [.int i, x])) xs)[i]? = some d) : ∃ x, xs[i]? = some x ∧ d = .d (.tuple [.int i, x]) := by
  rw [List.getElem?_zipWith] at h
  cases e : xs[i]? with
  | none =>
    rw [e] at h
    cases q : (List.range xs.length)[i]? <;> (rw [q] at h; cases h)
  | some x =>
    have hi : i < xs.length := (List.getElem?_eq_some_iff.mp e).1
    rw [e, List.getElem?_range hi] at h
    exact ⟨x, rfl, (Option.some.inj h).symm⟩
theorem enum_len {xs : List PyData} : ((List.range xs.length).zipWith (fun (i : Nat) x => D.d (.tuple [.int i, x])) xs).length = xs.length := by
  rw [List.length_zipWith, List.length_range, Nat.min_self]
section
variable {K : PySem.W.Frag} {F0 : Sto} {H0 : Hp} {a : Addr}
theorem pair_new {F : Sto} {H : Hp} (S : SR K F H) {T : Addr} {i : Nat} {v : V} {x : PyData} (hT : H T = none) (r : Dv K F H v x) : Fr F H F (upd H T (.tup [.int (i : Nat), v])) ∧ SR K F (upd H T (.tup [.int (i : Nat), v])) ∧ DvD K F (upd H T (.tup [.int (i : Nat), v])) (.ref T) (.d (.tuple [.int i, x])) :=
  ⟨fr_new hT, sr_new S hT, .d (.tup (.inl (.inl upd_same)) (.cons (.int _) (.cons (r.mono (fr_new hT) S) .nil)))⟩
theorem itok_enT {vs : List V} {xs : List PyData} (h : SqT K H0 a vs) (r : Dvs K F0 H0 vs xs) (S0 : SR K F0 H0) : ItOk K F0 H0 (IteT K a) ⟨(List.range xs.length).zipWith (fun (i : Nat) x => D.d (.tuple [.int i, x])) xs, none⟩ := fun i F H fr S _ => by
  have h' := sqT_mono fr S0 h
  have r' := r.mono fr S0
  refine ⟨fun d e => ?_, fun z => ⟨vs, h', by
    have z' : _ ≤ i := z
    rw [enum_len] at z'
    rw [r'.length]
    exact z'⟩⟩
  obtain ⟨x, ex, rfl⟩ := enum_get e
  obtain ⟨v, e1, r1⟩ := r'.get ex
  refine ⟨⟨vs, v, h', e1⟩, fun y H' ⟨T, w, ey, hT, eh, hy⟩ => ?_⟩
  subst ey eh
  have e2 := hy vs h'
  rw [e1] at e2
  cases e2
  exact pair_new S hT r1
theorem itok_enL {vs : List V} {xs : List PyData} (h : H0 a = some (.lst vs)) (f : F0 a = none) (r : Dvs K F0 H0 vs xs) (S0 : SR K F0 H0) : ItOk K F0 H0 (Ite K a) ⟨(List.range xs.length).zipWith (fun (i : Nat) x => D.d (.tuple [.int i, x])) xs, none⟩ := fun i F H fr S _ => by
  have h' : SqL K H a vs := .inl (.inl (fr a _ h f).1)
  have r' := r.mono fr S0
  refine ⟨fun d e => ?_, fun z => ⟨vs, h', by
    have z' : _ ≤ i := z
    rw [enum_len] at z'
    rw [r'.length]
    exact z'⟩⟩
  obtain ⟨x, ex, rfl⟩ := enum_get e
  obtain ⟨v, e1, r1⟩ := r'.get ex
  refine ⟨⟨vs, v, h', e1⟩, fun y H' ⟨T, w, ey, hT, eh, hy⟩ => ?_⟩
  subst ey eh
  have e2 := hy vs h'
  rw [e1] at e2
  cases e2
  exact pair_new S hT r1
theorem itok_enO {xs : List PyData} : ItOk K F0 H0 (Ite K a) ⟨(List.range xs.length).zipWith (fun (i : Nat) x => D.d (.tuple [.int i, x])) xs, some (a, xs.map D.d)⟩ := fun i F H fr S at_ => by
  obtain ⟨vs, h, r⟩ := S a _ (at_ a _ rfl)
  have h' : SqL K H a vs := .inl (.inl h)
  have r' := Dvs.of r
  refine ⟨fun d e => ?_, fun z => ⟨vs, h', by
    have z' : _ ≤ i := z
    rw [enum_len] at z'
    rw [r'.length]
    exact z'⟩⟩
  obtain ⟨x, ex, rfl⟩ := enum_get e
  obtain ⟨v, e1, r1⟩ := r'.get ex
  refine ⟨⟨vs, v, h', e1⟩, fun y H' ⟨T, w, ey, hT, eh, hy⟩ => ?_⟩
  subst ey eh
  have e2 := hy vs h'
  rw [e1] at e2
  cases e2
  exact pair_new S hT r1
end
theorem pdi_enum {X : Cx} {e : Expr} {ta : TAd} {p pos tpos : Pos} {elts : List Expr} {kk : Nat} (hg : Gl X "enumerate") (hm : X.mg "enumerate" = none) (ha : PDA X [e] ta) (hs : starEach [e] X.env = [(false, eval e X.env)] := by rfl) :
    PDI X (.Tuple elts kk tpos) (.Call (.Name "enumerate" p) [e] [] pos) (dEnum ta) := by
  refine ⟨fun pins s σ H R I ⟨en, st, hid, Rd, re, S, h, k⟩ => ?_⟩
  refine Call_ (ld_blt I hg hm boot_enumerate (PyProof.Rows.callWith_type1 (thn (ha.run pos pins s σ H (fun vs H1 => ∃ a, vs = [.ref a] ∧ ((∃ xs, SqL X.K H1 a xs) ∧ R (Ite X.K a) H1 ∨ (∃ xs, SqT X.K H1 a xs) ∧ R (IteT X.K a) H1)) I ⟨en, st, hid, _, re, S, h, fun vs H1 ds st1 F1 S1 r q => ?_⟩) fun us s1 ⟨vs, H1, I1, r1, a, ex, q1⟩ => ?_) hs rfl))
  · split at q
    · obtain ⟨v, rfl, r1⟩ := DvsD.one r
      obtain ⟨a, vs, rfl, h1, r2⟩ := tup_at r1
      exact ⟨a, rfl, .inr ⟨⟨vs, h1⟩, k _ H1 _ st1 F1 S1 (itok_enT h1 r2 S1.sr) (fun a ds z => nomatch z) q⟩⟩
    · obtain ⟨v, rfl, r1⟩ := DvsD.one r
      cases r1 with
      | d r1 =>
        cases r1 with
        | lst h f r => exact ⟨_, rfl, .inl ⟨⟨_, .inl (.inl h)⟩, k _ H1 _ st1 F1 S1 (itok_enL h f r S1.sr) (fun a ds z => nomatch z) q⟩⟩
    · obtain ⟨v, rfl, r1⟩ := DvsD.one r
      cases r1 with
      | own _ =>
        obtain ⟨xs, e1, q⟩ := q
        obtain ⟨vs, h1, r2⟩ := S1.at_ e1
        exact ⟨_, rfl, .inl ⟨⟨_, .inl (.inl h1)⟩, k _ H1 _ st1 F1 S1 itok_enO (fun b es z => by
          cases z
          exact e1) q⟩⟩
    · exact q.elim
  · subst ex
    cases r1 with
    | cons r rr =>
      cases rr
      cases r
      have kp2 : ∀ {h' : Heap}, (∀ b o, s1.heap.get? b = some o → h'.get? b = some o) → Inv X pins σ H1 { s1 with heap := h' } := fun hk => I1.kept (t' := s1.toks) hk
      have fpo : ∀ b ∈ [s1.heap.objs.size + 1, s1.heap.objs.size], FpOk X pins H1 b := fun b hb => by
        have e' : b = s1.heap.objs.size + 1 ∨ b = s1.heap.objs.size := by simpa using hb
        have hle : s1.heap.objs.size ≤ b := by
          rcases e' with z | z
          · rw [z]; exact Nat.le_add_right _ _
          · rw [z]; exact Nat.le_refl _
        exact I1.fpOk hle (I1.hok.fresh hle)
      rcases q1 with ⟨⟨xs, hq⟩, q⟩ | ⟨⟨xs, hq⟩, q⟩
      · obtain ⟨its, rv, p', hz⟩ := I1.list hq
        refine call_enumerate_list p'.isList fun h' he hit hsz hk => wpAny_pyIter_enum he ?_
        exact ⟨s1.heap.objs.size + 1, [s1.heap.objs.size + 1, s1.heap.objs.size], _, _, H1, rfl, kp2 hk, turn_enum a (s1.heap.objs.size + 1) s1.heap.objs.size, ⟨⟨.none, he⟩, hit, Nat.succ_ne_self _⟩, fpo, q⟩
      · obtain ⟨its, rv, p', hz⟩ := I1.tuple hq
        have p' : s1.heap.IsTuple a its.toArray := p'
        have hal : a < s1.heap.objs.size := by
          obtain ⟨o, ho, _⟩ := p'
          exact Heap.lt_size ho
        refine call_enumerate_1B (begins_tuple a its.toArray) p' fun h' he hit hsz hk => wpAny_pyIter_enum he ?_
        exact ⟨s1.heap.objs.size + 1, [s1.heap.objs.size + 1, s1.heap.objs.size], _, _, H1, rfl, kp2 hk, turn_enumT a (s1.heap.objs.size + 1) s1.heap.objs.size, ⟨⟨.none, he⟩, ⟨_, hit, rfl, rfl⟩, Nat.succ_ne_self _, Nat.ne_of_lt hal, Nat.ne_of_lt (Nat.lt_succ_of_lt hal)⟩, fpo, q⟩
end DL
namespace DL
open PySem PySem.Spec PyProof.Rows L2
/-! ### list comprehensions, targets of any form -/
inductive Pat where
  | nm (i : Nat)
  | tup (ps : List Pat)
mutual
def gP (K : PySem.W.Frag) : Pat → TG
  | .nm i => gName i
  | .tup ps => gTup K ps.length (gPs K ps)
def gPs (K : PySem.W.Frag) : List Pat → TGs
  | [] => gNil
  | p :: ps => gCons (gP K p) (gPs K ps)
end
mutual
def setP : Pat → PyData → Ed → Option Ed
  | .nm i, x, e => some (e.set i (some (.d x)))
  | .tup ps, .tuple xs, e => setPs ps xs e
  | .tup _, _, _ => none
def setPs : List Pat → List PyData → Ed → Option Ed
  | [], [], e => some e
  | p :: ps, x :: xs, e => (setP p x e).bind (setPs ps xs)
  | _, _, _ => none
end
mutual
def slots : Pat → List Nat
  | .nm i => [i]
  | .tup ps => slotsAll ps
def slotsAll : List Pat → List Nat
  | [] => []
  | p :: ps => slots p ++ slotsAll ps
end
structure REo (K : PySem.W.Frag) (st : Sto) (H : Hp) (P : Nat → Prop) (σ : L2.St) (e : Ed) : Prop where
  len : σ.length = e.length
  at_ : ∀ (i : Nat) (d : D), ¬ P i → e[i]? = some (some d) → ∃ v, σ[i]? = some (some v) ∧ DvD K st H v d
theorem wipe_at {σ : L2.St} {j : Nat} : ∀ {vs : List Nat}, j ∉ vs → (wipe σ vs)[j]? = σ[j]?
  | [], _ => rfl
  | v :: vs, h => by
    rw [List.mem_cons, not_or] at h
    unfold wipe
    rw [List.getElem?_set_ne (Ne.symm h.1), wipe_at h.2]
theorem wipe_in {σ : L2.St} {j : Nat} : ∀ {vs : List Nat}, j ∈ vs → j < σ.length → (wipe σ vs)[j]? = some none
  | v :: vs, h, hl => by
    unfold wipe
    by_cases e : v = j
    · subst e
      rw [List.getElem?_set_self (by rw [wipe_length]; exact hl)]
    · rw [List.getElem?_set_ne e]
      rcases List.mem_cons.mp h with h | h
      · exact absurd h.symm e
      · exact wipe_in h hl
theorem wipe_set {σ : L2.St} {i : Nat} {x : Option V} {vs : List Nat} (h : i ∈ vs) : wipe (σ.set i x) vs = wipe σ vs := by
  refine List.ext_getElem? fun j => ?_
  by_cases hj : j ∈ vs
  · by_cases hl : j < σ.length
    · rw [wipe_in hj hl, wipe_in hj (by rw [List.length_set]; exact hl)]
    · rw [List.getElem?_eq_none (by rw [wipe_length, List.length_set]; omega), List.getElem?_eq_none (by rw [wipe_length]; omega)]
  · have ne : i ≠ j := fun z => hj (z ▸ h)
    rw [wipe_at hj, wipe_at hj, List.getElem?_set_ne ne]
theorem RE.off {K : PySem.W.Frag} {st : Sto} {H : Hp} {σ : L2.St} {e : Ed} (r : RE K st H σ e) (vs : List Nat) : REo K st H (· ∈ vs) (wipe σ vs) e :=
  ⟨by rw [wipe_length]; exact r.len, fun i d hi h => by
    rw [wipe_at hi]
    exact r.at_ i d h⟩
theorem REo.on {K : PySem.W.Frag} {st : Sto} {H : Hp} {P : Nat → Prop} {σ : L2.St} {e : Ed} (r : REo K st H P σ e) (h : ∀ i, ¬ P i) : RE K st H σ e := ⟨r.len, fun i d q => r.at_ i d (h i) q⟩
theorem REo.imp {K : PySem.W.Frag} {st : Sto} {H : Hp} {P P' : Nat → Prop} {σ : L2.St} {e : Ed} (r : REo K st H P σ e) (h : ∀ i, P i → P' i) : REo K st H P' σ e := ⟨r.len, fun i d hi q => r.at_ i d (fun z => hi (h i z)) q⟩
theorem REo.set {K : PySem.W.Frag} {st : Sto} {H : Hp} {P : Nat → Prop} {σ : L2.St} {e : Ed} (r : REo K st H P σ e) {i : Nat} {v : V} {d : D} (h : DvD K st H v d) : REo K st H (fun j => P j ∧ j ≠ i) (σ.set i (some v)) (e.set i (some d)) := by
  refine ⟨by rw [List.length_set, List.length_set]; exact r.len, fun j x hp hj => ?_⟩
  by_cases hi : i = j
  · subst hi
    rw [List.getElem?_set] at hj ⊢
    rw [if_pos rfl] at hj ⊢
    rw [r.len]
    split at hj
    · rename_i hl
      rw [if_pos hl]
      cases Option.some.inj (Option.some.inj hj)
      exact ⟨v, rfl, h⟩
    · cases hj
  · rw [List.getElem?_set_ne hi] at hj ⊢
    exact r.at_ j x (fun z => hp ⟨z, fun w => hi w.symm⟩) hj
mutual
theorem gP_go {K : PySem.W.Frag} {st : Sto} {H : Hp} {vs : List Nat} : ∀ (p : Pat) {P : Nat → Prop} {σ : L2.St} {e e' : Ed} {v : V} {x : PyData} {Q : L2.St → Hp → Prop}, REo K st H P σ e → Dv K st H v x → setP p x e = some e' → (∀ i ∈ slots p, i ∈ vs) →
    (∀ σ2, REo K st H (fun j => P j ∧ j ∉ slots p) σ2 e' → wipe σ2 vs = wipe σ vs → Q σ2 H) → gP K p v σ H Q
  | .nm i, P, σ, e, e', v, x, Q, r, h, q, hs, k => by
    unfold setP at q
    cases Option.some.inj q
    unfold gP
    exact k _ ((r.set (.d h)).imp fun j hj => ⟨hj.1, by simpa [slots] using hj.2⟩) (wipe_set (hs i (by simp [slots])))
  | .tup ps, P, σ, e, e', v, x, Q, r, h, q, hs, k => by
    cases h with
    | tup h1 r1 =>
      unfold setP at q
      unfold gP
      refine ⟨_, _, rfl, h1, ?_, gPs_go ps r r1 q (by simpa [slots] using hs) (by simpa [slots] using k)⟩
      rw [r1.length]
      exact setPs_len ps q
    | _ => cases q
theorem setPs_len : ∀ (ps : List Pat) {xs : List PyData} {e e' : Ed}, setPs ps xs e = some e' → xs.length = ps.length
  | [], [], _, _, _ => rfl
  | [], _ :: _, _, _, q => by cases q
  | p :: ps, [], _, _, q => by cases q
  | p :: ps, x :: xs, e, e', q => by
    unfold setPs at q
    obtain ⟨e1, h1, h2⟩ := Option.bind_eq_some_iff.mp q
    rw [List.length_cons, List.length_cons, setPs_len ps h2]
theorem gPs_go {K : PySem.W.Frag} {st : Sto} {H : Hp} {vs : List Nat} : ∀ (ps : List Pat) {P : Nat → Prop} {σ : L2.St} {e e' : Ed} {ws : List V} {xs : List PyData} {Q : L2.St → Hp → Prop}, REo K st H P σ e → Dvs K st H ws xs → setPs ps xs e = some e' → (∀ i ∈ slotsAll ps, i ∈ vs) →
    (∀ σ2, REo K st H (fun j => P j ∧ j ∉ slotsAll ps) σ2 e' → wipe σ2 vs = wipe σ vs → Q σ2 H) → gPs K ps ws σ H Q
  | [], P, σ, e, e', ws, xs, Q, r, h, q, hs, k => by
    cases h with
    | nil =>
      unfold setPs at q
      cases Option.some.inj q
      exact ⟨rfl, k σ (r.imp fun j hj => ⟨hj, by simp [slotsAll]⟩) rfl⟩
    | cons _ _ => cases q
  | p :: ps, P, σ, e, e', ws, xs, Q, r, h, q, hs, k => by
    cases h with
    | nil => cases q
    | cons h t =>
      unfold setPs at q
      obtain ⟨e1, h1, h2⟩ := Option.bind_eq_some_iff.mp q
      unfold gPs
      refine ⟨_, _, rfl, gP_go p r h h1 (fun i hi => hs i (by simp [slotsAll, hi])) fun σ2 r2 w2 => ?_⟩
      exact gPs_go ps r2 t h2 (fun i hi => hs i (by simp [slotsAll, hi])) fun σ3 r3 w3 => k σ3 (r3.imp fun j ⟨⟨h1, h2⟩, h3⟩ => ⟨h1, by simp [slotsAll, h2, h3]⟩) (w3.trans w2)
end
def dLcP (M : List D → Sto → Kd → Prop) (ti : TId) (p : Pat) (tt : TTd) (te : TEd) : TEd := fun e st Q => ti e st fun it st1 => ∃ W : Nat → List D → Sto → Prop, W 0 [] st1 ∧ ∀ j acc st2, W j acc st2 → it.at st2 ∧ (it.xs.length ≤ j → M acc st2 Q) ∧
  ∀ d, it.xs[j]? = some d → ∃ x e', d = .d x ∧ setP p x e = some e' ∧ tt e' st2 fun b st3 => if b = true then te e' st3 fun y st4 => acc.length < sizeLine ∧ W (j + 1) (acc ++ [y]) st4 else W (j + 1) acc st3
theorem pd_lcP {X : Cx} {M : List D → Sto → Kd → Prop} (hM : ∀ ds st Q, M ds st Q → mkL ds st Q) {elt iter tg : Expr} {ifs : List Expr} {scope : Scope} {pos : Pos} {ti : TId} {tt : TTd} {te : TEd} (p : Pat) (own : List (Str × Nat)) (ho : ∀ i, i ∈ own.map (·.2) ↔ i ∈ slots p) (hc : X.calm = true) (hN : X.N.Nodup) (hi : PDI X tg iter ti) (ok : BlkOk X.N X.env.scope scope own)
    (hg : ∀ (s : Shared) (H : Hp) (C : Addr) (cl : List (Str × Addr)) (fp : List Addr), PG (X.blk s H scope (compEnvC scope cl C X.env) fp) tg (gP X.K p))
    (ht : ∀ (s : Shared) (H : Hp) (C : Addr) (cl : List (Str × Addr)) (fp : List Addr), PDTs (X.blk s H scope (compEnvC scope cl C X.env) fp) ifs tt)
    (he : ∀ (s : Shared) (H : Hp) (C : Addr) (cl : List (Str × Addr)) (fp : List Addr), PD (X.blk s H scope (compEnvC scope cl C X.env) fp) elt te) (hs : ∀ x, foldedSetIterable iter X.env x = pure x := by intro _; rfl) :
    PD X (.ListComp elt [⟨tg, iter, ifs, 0⟩] scope pos) (dLcP M ti p tt te) :=
  PE.imp (pe_lc (own := own) (wi := upI X.K ti) (g := gP X.K p) (tt := upT X.K tt) (te := up X.K te) hc hN hi ok hg ht he hs) fun σ H Q ⟨e, st, hid, Qd, re, S, h, k⟩ => by
    refine ⟨e, st, hid, _, re, S, h, fun J H1 it st1 F1 S1 ok1 at1 ⟨W, w0, turn⟩ p' hp => ?_⟩
    have n1 := jn_free (S1.sr.free0 hp)
    refine ⟨fun j m H2 => m = it.xs.length - j ∧ ∃ acc st2, W j acc st2 ∧ Sx X.K (put st2 p' acc) hid H2 ∧ st2 p' = none ∧ Fr (jn (put st1 p' []) hid) (upd H1 p' (.lst [])) (jn (put st2 p' acc) hid) H2, ⟨it.xs.length, by simp, [], st1, w0, S1.own hp .nil, n1.1, Fr.refl _ _⟩, ?_⟩
    rintro j m H2 ⟨rfl, acc, st2, w2, S2, n2, F2⟩
    obtain ⟨at2, done, go⟩ := turn j acc st2 w2
    have Sh := S2.hide n2
    have eqF : jn st2 (put hid p' acc) = jn (put st2 p' acc) hid := jn_swap n2
    have F12 : Fr (jn st1 hid) H1 (jn (put st2 p' acc) hid) H2 := Fr.trans (fx_own hp) F2
    have F02 : Fr (jn st hid) H (jn (put st2 p' acc) hid) H2 := Fr.trans F1 F12
    have atF : it.at (jn (put st2 p' acc) hid) := fun a ds z => by
      have e1 := at2 a ds z
      have ne : a ≠ p' := fun z' => by
        rw [z', n2] at e1
        cases e1
      exact jn_some (by rw [put_ne ne]; exact e1)
    have It := ok1 j _ H2 F12 S2.sr atF
    by_cases hj : it.xs.length ≤ j
    · refine .inl ⟨It.2 hj, ?_⟩
      obtain ⟨vs, hv, rv⟩ := S2.at_ put_same
      rcases hM _ _ _ (done hj) with ⟨xs, ep, q⟩ | q
      · have ea := pures_eq ep
        subst ea
        obtain ⟨Sc, Fc, fc⟩ := S2.frz put_same
        have ec : cut (put st2 p' (xs.map D.d)) p' = st2 := by
          funext b
          by_cases eb : b = p'
          · rw [eb, cut_same, n2]
          · rw [cut_ne eb, put_ne eb]
        rw [ec] at Sc Fc fc
        exact k _ H2 _ st2 (Fr.trans F02 Fc) Sc (.d (.lst hv fc ((Dvs.of rv).mono Fc S2.sr))) q
      · exact k _ H2 _ _ F02 S2 (.own p') (q p' n2)
    · have hlt : j < it.xs.length := Nat.lt_of_not_le hj
      have ed : it.xs[j]? = some it.xs[j] := List.getElem?_eq_getElem hlt
      obtain ⟨g1, g2⟩ := It.1 _ ed
      refine .inr ⟨g1, fun H' => ∃ acc' st', W (j + 1) acc' st' ∧ Sx X.K (put st' p' acc') hid H' ∧ st' p' = none ∧ Fr (jn (put st1 p' []) hid) (upd H1 p' (.lst [])) (jn (put st' p' acc') hid) H', fun H' ⟨acc', st', h1, h2, h3, h4⟩ => ⟨it.xs.length - (j + 1), by omega, rfl, acc', st', h1, h2, h3, h4⟩, fun x H3 hy => ?_⟩
      obtain ⟨F23, S3r, rx⟩ := g2 x H3 hy
      obtain ⟨xd, e', exd, he', go2⟩ := go _ ed
      rw [exd] at rx
      cases rx with
      | d rx =>
      have S3 : Sx X.K (put st2 p' acc) hid H3 := ⟨S2.dj, S3r⟩
      have S3h := S3.hide n2
      have F03 := Fr.trans F02 F23
      have reo : REo X.K (jn (put st2 p' acc) hid) H3 (· ∈ own.map (·.2)) (wipe σ (own.map (·.2))) e := (re.mono F03 S.sr).off _
      refine gP_go p reo rx he' (fun i hi => (ho i).mpr hi) fun σ2 r2 w2 => ?_
      have reX : RE X.K (jn st2 (put hid p' acc)) H3 σ2 e' := by
        rw [eqF]
        exact r2.on fun i hi => hi.2 ((ho i).mp hi.1)
      have ww : wipe (wipe σ (own.map (·.2))) (own.map (·.2)) = wipe σ (own.map (·.2)) := by
        refine List.ext_getElem? fun i => ?_
        by_cases hi : i ∈ own.map (·.2)
        · by_cases hl : i < σ.length
          · rw [wipe_in hi (by rw [wipe_length]; exact hl), wipe_in hi hl]
          · rw [List.getElem?_eq_none (by rw [wipe_length, wipe_length]; omega), List.getElem?_eq_none (by rw [wipe_length]; omega)]
        · rw [wipe_at hi]
      refine ⟨w2.trans ww, ?_⟩
      refine ⟨_, st2, put hid p' acc, _, reX, S3h, go2, fun b H4 st4 F4 S4 q4 => ?_⟩
      have hn : hid p' = none := n1.2
      have F3X : Fr (jn (put st1 p' []) hid) (upd H1 p' (.lst [])) (jn st2 (put hid p' acc)) H3 := by
        rw [eqF]
        exact Fr.trans F2 F23
      cases b with
      | false =>
        rw [if_neg Bool.false_ne_true] at q4
        refine iteF ?_
        obtain ⟨S4', n4⟩ := S4.shown hn
        refine ⟨acc, st4, q4, S4', n4, ?_⟩
        rw [← jn_swap n4]
        exact Fr.trans F3X F4
      | true =>
        rw [if_pos rfl] at q4
        refine iteT ?_
        refine ⟨_, st4, put hid p' acc, _, reX.mono F4 S3h.sr, S4, q4, fun v H5 d st5 F5 S5 r5 ⟨hz, w5⟩ => ?_⟩
        obtain ⟨S5', n5⟩ := S5.shown hn
        obtain ⟨vs, hv, rv⟩ := S5'.at_ put_same
        rw [jn_swap n5] at r5
        refine ⟨vs, hv, by rw [Paired.length rv]; exact hz, acc ++ [d], st5, w5, ?_, n5, ?_⟩
        · have := S5'.store (es := acc ++ [d]) put_same (DvsD.snoc rv r5)
          have ee : put (put st5 p' acc) p' (acc ++ [d]) = put st5 p' (acc ++ [d]) := by
            funext b
            by_cases eb : b = p'
            · rw [eb, put_same, put_same]
            · rw [put_ne eb, put_ne eb, put_ne eb]
          rw [ee] at this
          exact this
        · have Fa : Fr (jn (put st1 p' []) hid) (upd H1 p' (.lst [])) (jn (put st5 p' acc) hid) H5 := by
            rw [← jn_swap n5]
            exact Fr.trans F3X (Fr.trans F4 F5)
          intro b o hb hf
          have ne : b ≠ p' := fun z => by
            rw [z, jn_some put_same] at hf
            cases hf
          obtain ⟨z1, z2⟩ := Fa b o hb hf
          refine ⟨by rw [upd_ne ne]; exact z1, ?_⟩
          unfold jn at z2 ⊢
          rw [put_ne ne] at z2 ⊢
          exact z2
end DL
namespace DL
open PySem PySem.Spec PyProof.Rows L2
/-! ### sorted(xs) -/
def sortD (xs : List PyData) : List PyData := xs.mergeSort (PySem.W.dataLe false _root_.id)
mutual
theorem alike_noDict : ∀ (x : PyData), PySem.W.alike x x = true → x.hasDict = false
  | .none, _ => rfl
  | .bool _, _ => rfl
  | .int _, _ => rfl
  | .str _, _ => rfl
  | .list xs, h => by
    unfold PyData.hasDict
    exact alikeAll_noDict xs (by simpa [PySem.W.alike] using h)
  | .tuple xs, h => by
    unfold PyData.hasDict
    exact alikeAll_noDict xs (by simpa [PySem.W.alike] using h)
  | .dict _, h => by simp [PySem.W.alike] at h
theorem alikeAll_noDict : ∀ (xs : List PyData), PySem.W.alikeAll xs xs = true → PyData.hasDictAll xs = false
  | [], _ => by simp [PyData.hasDictAll]
  | x :: xs, h => by
    rw [PySem.W.alikeAll, Bool.and_eq_true] at h
    rw [PyData.hasDictAll, alike_noDict x h.1, alikeAll_noDict xs h.2]
    rfl
end
def cSorted : RCd := fun ds st Q => match ds with
  | [x] => ∃ xs : List PyData, lstOf x st = some (xs.map D.d) ∧ PySem.W.AllAlike xs ∧ PySem.W.Sortable xs ∧ (∀ d ∈ xs, d.depth ≤ 64) ∧ mkL ((sortD xs).map D.d) st Q
  | _ => False
section
variable {X : Cx}
theorem each_of {K : PySem.W.Frag} {st : Sto} {H : Hp} : ∀ {vs : List V} {us : List Value} {xs : List PyData}, Vals vs us → Dvs K st H vs xs → PySem.W.EachIs (fun u x => ∃ v, RelV v u ∧ Dv K st H v x) us xs
  | _, _, _, .nil, .nil => .nil
  | _, _, _, .cons r t, .cons h t' => .cons ⟨_, r, h⟩ (each_of t t')
theorem of_each {K : PySem.W.Frag} {st : Sto} {H : Hp} : ∀ {us : List Value} {xs : List PyData}, PySem.W.EachIs (fun u x => ∃ v, RelV v u ∧ Dv K st H v x) us xs → ∃ vs, Vals vs us ∧ Dvs K st H vs xs
  | _, _, .nil => ⟨[], .nil, .nil⟩
  | _, _, .cons ⟨v, r, h⟩ t => by
    obtain ⟨vs, h1, h2⟩ := of_each t
    exact ⟨v :: vs, .cons r h1, .cons h h2⟩
theorem each_reads {pins : List (Addr × Obj)} {σ : L2.St} {st : Sto} {H : Hp} {s : Shared} (I : Inv X pins σ H s) : ∀ {vs : List V} {us : List Value} {xs : List PyData}, Vals vs us → Dvs X.K st H vs xs → (∀ x ∈ xs, x.hasDict = false) → PySem.W.EachIs (fun v b => ∃ as, Reads s.heap v (_root_.id b) as) us xs
  | _, _, _, .nil, .nil, _ => .nil
  | _, _, _, .cons r t, .cons h t', n => .cons (Dp.reads I _ _ _ (h.dp (n _ List.mem_cons_self)) r) (each_reads I t t' fun x hx => n x (List.mem_cons_of_mem _ hx))
theorem c_sorted (hu : X.A.units + 66 < cLine) : CallR X (.builtin "sorted") (upC X.K cSorted) := fun pins s σ H vs us Q I rx ⟨ds, st, hid, Qd, r, S, w, k⟩ => by
  unfold cSorted at w
  split at w
  · obtain ⟨v, rfl, r1⟩ := r.one
    obtain ⟨xs, e, hal, hk, hd, q⟩ := w
    obtain ⟨a, ws, rfl, h1, r2⟩ := lstOf_at r1 S e
    have r2 := Dvs.of r2
    obtain ⟨u, rfl, ru⟩ := vals1 rx
    cases ru
    obtain ⟨its, rv, hl, hz⟩ := I.list h1
    have nd : ∀ x ∈ xs, x.hasDict = false := fun x hx => alike_noDict x (hal x hx x hx)
    have ln : xs.length ≤ sizeLine := by
      rw [← r2.length]
      have := rv.length
      omega
    have hal' : PySem.W.AllAlike (xs.map _root_.id) := by rw [List.map_id]; exact hal
    have hk' : PySem.W.Sortable (xs.map _root_.id) := by rw [List.map_id]; exact hk
    refine PySem.W.sorted_data (R := fun u x => ∃ v, RelV v u ∧ Dv X.K (jn st hid) H v x) (enc := _root_.id) hl.isList (each_of rv r2) (each_reads I rv r2 nd) hal' hk' ln (fun b hb => ?_) fun out hlen ho => ?_
    · have := hd b hb
      show X.A.units + 2 + b.depth < cLine
      omega
    · obtain ⟨vs', h2, h3⟩ := of_each ho
      have hlen2 := h2.length
      have hn := I.hok.fresh (Nat.le_succ s.heap.objs.size)
      obtain ⟨n, hat⟩ := sortedAll_at s.heap its (List.toArray out)
      refine ⟨.ref (s.heap.objs.size + 1), upd H (s.heap.objs.size + 1) (.lst vs'), I.laid (t' := s.toks) (fun b o e => sortedAll_old e) (Nat.le_succ _) ⟨?_, out, n, h2, by simpa using hat⟩, rfl, mkL_go (ds := (sortD xs).map D.d) q S hn (Dvs.to h3) k⟩
      rw [h2.length, hlen]
      exact ln
  · exact w.elim
end
/-! ### // of any divisor but 0 -/
def CDivF (_ j : Int) : Prop := j ≠ 0 ∧ j.natAbs.log2 < 9000
def rDivF : R2d := rI2 CDivF fun i j => .int (Int.fdiv i j)
theorem o_divF {X : Cx} : OpR X (binaryOp .FloorDiv) (upR X.K rDivF) := up_int (opI fun i j _ _ _ _ _ hc q => floordiv_int hc.1 q (.inl (PyProof.noPylong_of_log2 hc.2)))
theorem bt_sorted : bootBuiltins "sorted" = some (.builtin "sorted") := by decide +kernel
theorem bt_sum : bootBuiltins "sum" = some (.builtin "sum") := by decide +kernel
theorem bt_any : bootBuiltins "any" = some (.builtin "any") := by decide +kernel
theorem u66 {k : Nat} {A : Around} (r : Room k A) : A.units + 66 < cLine := by
  have := r.un
  omega
end DL
namespace DL
open PySem PySem.Spec PyProof.Rows L2
section
variable {e : Ed} {st : Sto} {Q : Ed → Sto → Prop} {i j k l m o p : Nat} {a b c d f g h : PyData}
theorem tup2 : hTup 2 (hCons (hName i) (hCons (hName j) hNil)) (.d (.tuple [a, b])) e st Q = Q ((e.set i (some (.d a))).set j (some (.d b))) st := propext ⟨fun h => h.2.2, fun h => ⟨rfl, rfl, h⟩⟩
theorem tup3 : hTup 3 (hCons (hName i) (hCons (hName j) (hCons (hName k) hNil))) (.d (.tuple [a, b, c])) e st Q = Q (((e.set i (some (.d a))).set j (some (.d b))).set k (some (.d c))) st := propext ⟨fun h => h.2.2, fun h => ⟨rfl, rfl, h⟩⟩
theorem tup4 : hTup 4 (hCons (hName i) (hCons (hName j) (hCons (hName k) (hCons (hName l) hNil)))) (.d (.tuple [a, b, c, d])) e st Q = Q ((((e.set i (some (.d a))).set j (some (.d b))).set k (some (.d c))).set l (some (.d d))) st := propext ⟨fun h => h.2.2, fun h => ⟨rfl, rfl, h⟩⟩
theorem tup5 : hTup 5 (hCons (hName i) (hCons (hName j) (hCons (hName k) (hCons (hName l) (hCons (hName m) hNil))))) (.d (.tuple [a, b, c, d, f])) e st Q = Q (((((e.set i (some (.d a))).set j (some (.d b))).set k (some (.d c))).set l (some (.d d))).set m (some (.d f))) st := propext ⟨fun h => h.2.2, fun h => ⟨rfl, rfl, h⟩⟩
theorem tup22 : hTup 2 (hCons (hTup 2 (hCons (hName i) (hCons (hName j) hNil))) (hCons (hTup 2 (hCons (hName k) (hCons (hName l) hNil))) hNil)) (.d (.tuple [.tuple [a, b], .tuple [c, d]])) e st Q = Q ((((e.set i (some (.d a))).set j (some (.d b))).set k (some (.d c))).set l (some (.d d))) st := propext ⟨fun h => h.2.2.2.2.2.2, fun h => ⟨rfl, rfl, rfl, rfl, rfl, rfl, h⟩⟩
theorem tup12 : hTup 2 (hCons (hName i) (hCons (hTup 2 (hCons (hName k) (hCons (hName l) hNil))) hNil)) (.d (.tuple [a, .tuple [c, d]])) e st Q = Q (((e.set i (some (.d a))).set k (some (.d c))).set l (some (.d d))) st := propext ⟨fun h => h.2.2.2.2, fun h => ⟨rfl, rfl, rfl, rfl, h⟩⟩
end
/-! ### lists that are let go -/
def Sub (st' st : Sto) : Prop := ∀ a, st' a = st a ∨ st' a = none
theorem Sub.refl (st : Sto) : Sub st st := fun _ => .inl rfl
theorem Sx.sub {K : PySem.W.Frag} {st st' hid : Sto} {H : Hp} (S : Sx K st hid H) (h : Sub st' st) : Sx K st' hid H ∧ FrX st hid H st' H := by
  have F : FrX st hid H st' H := fun b o hb f => ⟨hb, by
    obtain ⟨h1, h2⟩ := jn_free f
    have e : st' b = none := by
      rcases h b with e | e
      · rw [e]
        exact h1
      · exact e
    rw [jn_none e]
    exact h2⟩
  refine ⟨⟨fun a n => ?_, fun a ds e => ?_⟩, F⟩
  · rcases h a with e | e
    · rw [e]
      exact S.dj a n
    · exact e
  · have e' : jn st hid a = some ds := by
      cases q : st' a with
      | some es =>
        rw [jn_some q] at e
        cases e
        rcases h a with z | z
        · exact jn_some (by rw [← z, q])
        · rw [z] at q
          cases q
      | none =>
        rw [jn_none q] at e
        have : st a = none := S.dj a (by rw [e]; exact fun z => nomatch z)
        rw [jn_none this]
        exact e
    obtain ⟨xs, h1, h2⟩ := S.sr a ds e'
    exact ⟨xs, h1, h2.mono F S.sr⟩
def RQ (Q : Kd) : Kd := fun d st => ∃ st', Sub st' st ∧ Q d st'
theorem RQ.of {Q : Kd} {d : D} {st : Sto} (h : Q d st) : RQ Q d st := ⟨st, Sub.refl st, h⟩
theorem Go.sub {K : PySem.W.Frag} {st hid : Sto} {H : Hp} {Qd : Kd} {Q : VK} (k : Go K st hid H Qd Q) : Go K st hid H (RQ Qd) Q := fun v H1 d st1 F1 S1 r ⟨st2, hs, q⟩ => by
  obtain ⟨S2, F2⟩ := S1.sub hs
  exact k v H1 d st2 (Fr.trans F1 F2) S2 (r.mono F2 S1.sr) q
theorem can_ofS {P : Program} {w : World} {K : PySem.W.Frag} {mg : Str → Option Value} {base : Heap} {x : Str} {st : Stmt} {N ps : List Str} {k : Nat} {sp : SpD} {t : TSd} (F : Has K mg x st) (S : FnScope N ps (defScope st)) (len : ∀ ds s Q, sp ds s Q → ds.length = ps.length)
    (bind : ∀ (kV doc pm : Value) (an : Option Addr) (cdv ct : Value) (us : List Value), us.length = ps.length → bindArgs (PySem.W.fnOf x x (defArgs st) (defBody st) (defScope st) .none kV doc pm an cdv ct) ⟨us, []⟩ = pure (ps.zip us))
    (hbody : ∀ (f : Addr) (cd : Value) (A : Around) (outer : List Env) (s : Shared) (H : Hp) (E : XK), A.guards = some [] → Room k (A.deeper (envOfC x (defScope st) s.heap.objs.size f cd)) → PDSs (cxD P w K mg base N x (defScope st) f cd A outer s H E) (defBody st) t)
    (hsp : ∀ ds s Q, sp ds s Q → t { nx := fun _ s' => RQ Q (.d .none) s', rt := RQ Q } (startD N ds) s) : Can P w K mg base (k + 1) x st ps sp := by
  have C : Can P w K mg base (k + 1) x st ps (fun ds s Q => ∃ Q0, sp ds s Q0 ∧ Q = RQ Q0) := can_of F S (fun ds s Q ⟨Q0, h, _⟩ => len ds s Q0 h) bind hbody fun ds s Q ⟨Q0, h, e⟩ => by
    subst e
    exact hsp ds s Q0 h
  obtain ⟨f, fd, ⟨l, r⟩, h⟩ := C.ex
  refine ⟨f, fd, ⟨fun vs H Q E ⟨ds, s, hid, Qd, rd, S, hq, g⟩ => l vs H Q E ⟨ds, s, hid, RQ Qd, rd, S, ⟨Qd, hq, rfl⟩, Go.sub g⟩, fun A outer s H args us vs Q E hg hr e0 hb hv ⟨ds, sd, hid, Qd, rd, Sd, hq, g⟩ => r A outer s H args us vs Q E hg hr e0 hb hv ⟨ds, sd, hid, RQ Qd, rd, Sd, ⟨Qd, hq, rfl⟩, Go.sub g⟩⟩, h⟩
end DL
namespace DL
open PySem PySem.Spec PyProof.Rows L2
/-- repr(x), of a list that may still grow too -/
def cReprX : RCd := fun ds st Q => match ds with
  | [.d x] => x.hasDict = false ∧ x.showable = true ∧ x.shown.length ≤ sizeLine ∧ x.depth ≤ 64 ∧ Q (.d (.str x.shown)) st
  | [.own a] => ∃ xs : List PyData, st a = some (xs.map D.d) ∧ (PyData.list xs).hasDict = false ∧ (PyData.list xs).showable = true ∧ (PyData.list xs).shown.length ≤ sizeLine ∧ (PyData.list xs).depth ≤ 64 ∧ Q (.d (.str (PyData.list xs).shown)) st
  | _ => False
section
variable {X : Cx}
theorem c_reprX (hG : X.A.guards = some []) (hu : X.A.units + 65 < cLine) : CallR X (.builtin "repr") (upC X.K cReprX) := fun pins s σ H vs us Q I rx ⟨ds, st, hid, Qd, r, S, w, k⟩ => by
  unfold cReprX at w
  split at w
  · exact c_repr hG hu pins s σ H vs us Q I rx ⟨_, st, hid, Qd, r, S, w, k⟩
  · rename_i a
    obtain ⟨v, rfl, r1⟩ := r.one
    obtain ⟨xs, e, h1, h2, h3, h4, q⟩ := w
    cases r1 with
    | own _ =>
      obtain ⟨ws, hw, r2⟩ := S.at_ e
      have r2 := Dvs.of r2
      obtain ⟨u, rfl, ru⟩ := vals1 rx
      cases ru
      obtain ⟨as, rd⟩ := Dp.reads I _ _ _ (Dp.lst (.inl (.inl hw)) (Dvs.dp r2 (by simpa [PyData.hasDict] using h1))) rfl
      exact repr_of_reads' rd h2 (fun z => by rw [h1] at z; cases z) hG (by omega) (fun _ _ e => e) (fun h' u tk kp => ⟨.str _, H, I.kept kp, ⟨_, rfl⟩, k.now S (.d (.str _)) q⟩) h3
  · exact w.elim
end
end DL
namespace DL
open PySem PySem.Spec PyProof.Rows L2
/-! ### x = [.. for ..]: the name is stored within the comprehension's own swap -/
theorem lcM_imp {X : Cx} {M : List D → Sto → Kd → Prop} (hM : ∀ ds st Q, M ds st Q → mkL ds st Q) {i : Nat} {ti : TId} {tt : TTd} {te : TEd} {σ : L2.St} {H : Hp} {Q : VK} (w : up X.K (dLcM M ti i tt te) σ H Q) : tLc (upI X.K ti) (gName i) (upT X.K tt) (up X.K te) [i] σ H Q := by
  obtain ⟨e, st, hid, Qd, re, S, h, k⟩ := w
  refine ⟨e, st, hid, _, re, S, h, fun J H1 it st1 F1 S1 ok1 at1 ⟨W, w0, turn⟩ p hp => ?_⟩
  have n1 := jn_free (S1.sr.free0 hp)
  refine ⟨fun j m H2 => m = it.xs.length - j ∧ ∃ acc st2, W j acc st2 ∧ Sx X.K (put st2 p acc) hid H2 ∧ st2 p = none ∧ Fr (jn (put st1 p []) hid) (upd H1 p (.lst [])) (jn (put st2 p acc) hid) H2, ⟨it.xs.length, by simp, [], st1, w0, S1.own hp .nil, n1.1, Fr.refl _ _⟩, ?_⟩
  rintro j m H2 ⟨rfl, acc, st2, w2, S2, n2, F2⟩
  obtain ⟨at2, done, go⟩ := turn j acc st2 w2
  have Sh := S2.hide n2
  have eqF : jn st2 (put hid p acc) = jn (put st2 p acc) hid := jn_swap n2
  -- from the state ahead of the new list
  have F12 : Fr (jn st1 hid) H1 (jn (put st2 p acc) hid) H2 := Fr.trans (fx_own hp) F2
  have F02 : Fr (jn st hid) H (jn (put st2 p acc) hid) H2 := Fr.trans F1 F12
  have atF : it.at (jn (put st2 p acc) hid) := fun a ds z => by
    have e1 := at2 a ds z
    have ne : a ≠ p := fun z' => by
      rw [z', n2] at e1
      cases e1
    exact jn_some (by rw [put_ne ne]; exact e1)
  have It := ok1 j _ H2 F12 S2.sr atF
  by_cases hj : it.xs.length ≤ j
  · refine .inl ⟨It.2 hj, ?_⟩
    obtain ⟨vs, hv, rv⟩ := S2.at_ put_same
    rcases hM _ _ _ (done hj) with ⟨xs, ep, q⟩ | q
    · have ea := pures_eq ep
      subst ea
      obtain ⟨Sc, Fc, fc⟩ := S2.frz put_same
      have ec : cut (put st2 p (xs.map D.d)) p = st2 := by
        funext b
        by_cases eb : b = p
        · rw [eb, cut_same, n2]
        · rw [cut_ne eb, put_ne eb]
      rw [ec] at Sc Fc fc
      exact k _ H2 _ st2 (Fr.trans F02 Fc) Sc (.d (.lst hv fc ((Dvs.of rv).mono Fc S2.sr))) q
    · exact k _ H2 _ _ F02 S2 (.own p) (q p n2)
  · have hlt : j < it.xs.length := Nat.lt_of_not_le hj
    have ed : it.xs[j]? = some it.xs[j] := List.getElem?_eq_getElem hlt
    obtain ⟨g1, g2⟩ := It.1 _ ed
    refine .inr ⟨g1, fun H' => ∃ acc' st', W (j + 1) acc' st' ∧ Sx X.K (put st' p acc') hid H' ∧ st' p = none ∧ Fr (jn (put st1 p []) hid) (upd H1 p (.lst [])) (jn (put st' p acc') hid) H', fun H' ⟨acc', st', h1, h2, h3, h4⟩ => ⟨it.xs.length - (j + 1), by omega, rfl, acc', st', h1, h2, h3, h4⟩, fun x H3 hy => ?_⟩
    obtain ⟨F23, S3r, rx⟩ := g2 x H3 hy
    have S3 : Sx X.K (put st2 p acc) hid H3 := ⟨S2.dj, S3r⟩
    have S3h := S3.hide n2
    have F03 := Fr.trans F02 F23
    have reX : RE X.K (jn st2 (put hid p acc)) H3 (((wipe σ [i]).set i (some x))) (e.set i (some it.xs[j])) := by
      rw [eqF]
      show RE X.K _ H3 ((σ.set i none).set i (some x)) _
      rw [set_none_set]
      exact (re.mono F03 S.sr).set rx
    show wipe ((wipe σ [i]).set i (some x)) [i] = wipe σ [i] ∧ upT X.K tt ((wipe σ [i]).set i (some x)) H3 _
    refine ⟨by
      show (((σ.set i none).set i (some x)).set i none) = σ.set i none
      rw [List.set_set, List.set_set], ?_⟩
    refine ⟨_, st2, put hid p acc, _, reX, S3h, go _ ed, fun b H4 st4 F4 S4 q4 => ?_⟩
    have hn : hid p = none := n1.2
    have F3X : Fr (jn (put st1 p []) hid) (upd H1 p (.lst [])) (jn st2 (put hid p acc)) H3 := by
      rw [eqF]
      exact Fr.trans F2 F23
    cases b with
    | false =>
      rw [if_neg Bool.false_ne_true] at q4
      refine iteF ?_
      obtain ⟨S4', n4⟩ := S4.shown hn
      refine ⟨acc, st4, q4, S4', n4, ?_⟩
      rw [← jn_swap n4]
      exact Fr.trans F3X F4
    | true =>
      rw [if_pos rfl] at q4
      refine iteT ?_
      refine ⟨_, st4, put hid p acc, _, reX.mono F4 S3h.sr, S4, q4, fun v H5 d st5 F5 S5 r5 ⟨hz, w5⟩ => ?_⟩
      obtain ⟨S5', n5⟩ := S5.shown hn
      obtain ⟨vs, hv, rv⟩ := S5'.at_ put_same
      rw [jn_swap n5] at r5
      refine ⟨vs, hv, by rw [Paired.length rv]; exact hz, acc ++ [d], st5, w5, ?_, n5, ?_⟩
      · have := S5'.store (es := acc ++ [d]) put_same (DvsD.snoc rv r5)
        have ee : put (put st5 p acc) p (acc ++ [d]) = put st5 p (acc ++ [d]) := by
          funext b
          by_cases eb : b = p
          · rw [eb, put_same, put_same]
          · rw [put_ne eb, put_ne eb, put_ne eb]
        rw [ee] at this
        exact this
      · have Fa : Fr (jn (put st1 p []) hid) (upd H1 p (.lst [])) (jn (put st5 p acc) hid) H5 := by
          rw [← jn_swap n5]
          exact Fr.trans F3X (Fr.trans F4 F5)
        intro b o hb hf
        have ne : b ≠ p := fun z => by
          rw [z, jn_some put_same] at hf
          cases hf
        obtain ⟨z1, z2⟩ := Fa b o hb hf
        refine ⟨by rw [upd_ne ne]; exact z1, ?_⟩
        unfold jn at z2 ⊢
        rw [put_ne ne] at z2 ⊢
        exact z2
theorem psd_setLc {X : Cx} {M : List D → Sto → Kd → Prop} (hM : ∀ ds st Q, M ds st Q → mkL ds st Q) {i m : Nat} {x : Str} {pos' spos : Pos} {elt iter : Expr} {ifs : List Expr} {scope : Scope} {y : Str} {py pos : Pos} {ti : TId} {tt : TTd} {te : TEd} (hc : X.calm = true) (hN : X.N.Nodup) (hi : X.N[i]? = some x) (hx : X.env.scope.names.lookup x = some .local)
    (hs : swapsWith (.ListComp elt [⟨.Name y py, iter, ifs, 0⟩] scope pos) (some (.Name x pos')) spos.line X.env = pure true) (hit : PDI X (.Name y py) iter ti) (ok : BlkOk X.N X.env.scope scope [(y, m)])
    (hg : ∀ (s : Shared) (H : Hp) (C : Addr) (cl : List (Str × Addr)) (fp : List Addr), PG (X.blk s H scope (compEnvC scope cl C X.env) fp) (.Name y py) (gName m))
    (ht : ∀ (s : Shared) (H : Hp) (C : Addr) (cl : List (Str × Addr)) (fp : List Addr), PDTs (X.blk s H scope (compEnvC scope cl C X.env) fp) ifs tt)
    (he : ∀ (s : Shared) (H : Hp) (C : Addr) (cl : List (Str × Addr)) (fp : List Addr), PD (X.blk s H scope (compEnvC scope cl C X.env) fp) elt te) (hf : ∀ x, foldedSetIterable iter X.env x = pure x := by intro _; rfl) :
    PDS X (.Assign [.Name x pos'] (.ListComp elt [⟨.Name y py, iter, ifs, 0⟩] scope pos) spos) (dAsg (dLcM M ti m tt te) (hName i)) :=
  PS.imp (ps_setLc (own := [(y, m)]) (wi := upI X.K ti) (g := gName m) (tt := upT X.K tt) (te := up X.K te) hc hN hi hx hs hit ok hg ht he hf) fun D σ H ⟨e, st, hid, E, re, S, h, k1, k2, k3, k4⟩ =>
    lcM_imp hM ⟨e, st, hid, _, re, S, h, frz_go fun v H1 d st1 F1 S1 r q => k1 _ H1 _ st1 F1 S1 ((re.mono F1 S.sr).set r) q⟩
end DL
namespace DL
open PySem PySem.Spec PyProof.Rows L2
/-! ### xs.insert(at, x) -/
theorem ins_tree {a : Addr} {i : Int} {t : Tok} {y : Value} (h : Builtin.List.listFitsIndex i = true) : Builtin.«list.insert» { pos := [.ref a, .int i t, y] } = (do
    Builtin.List.listUpdate (.ref a) fun xs => (xs.extract 0 (if i < 0 then (i + ↑xs.size).toNat else min i.toNat xs.size)).push y ++ xs.extract (if i < 0 then (i + ↑xs.size).toNat else min i.toNat xs.size)
    ret Value.none) := by
  unfold Builtin.«list.insert»
  have e1 : selfAndSome "list.insert" "insert" 2 2 { pos := [.ref a, .int i t, y] } = pure (.ref a, [.int i t, y]) := rfl
  have e2 : asIndex (.int i t) = pure i := rfl
  rw [e1]
  simp only [pure_bind, e2, h]
  rfl
def insA (i : Int) (y : Value) (xs : Array Value) : Array Value := (xs.extract 0 (if i < 0 then (i + ↑xs.size).toNat else min i.toNat xs.size)).push y ++ xs.extract (if i < 0 then (i + ↑xs.size).toNat else min i.toNat xs.size)
theorem insA_eq {i : Nat} {y : Value} {its : List Value} (h : i ≤ its.length) : insA i y its.toArray = (its.take i ++ y :: its.drop i).toArray := by
  unfold insA
  have e : (if (i : Int) < 0 then ((i : Int) + ↑its.toArray.size).toNat else min (i : Int).toNat its.toArray.size) = i := by
    rw [if_neg (by omega)]
    simp
    omega
  rw [e]
  simp
  exact List.take_of_length_le (by rw [List.length_drop]; exact Nat.le_refl _)
def rIns : V → List V → Hp → VK → Prop := fun x vs H Q => ∃ l xs, ∃ i : Nat, ∃ y, x = .ref l ∧ vs = [.int i, y] ∧ H l = some (.lst xs) ∧ i ≤ xs.length ∧ xs.length < sizeLine ∧ Q .non (upd H l (.lst (xs.take i ++ y :: xs.drop i)))
theorem vals_take : ∀ {vs : List V} {us : List Value} (i : Nat), Vals vs us → Vals (vs.take i) (us.take i) ∧ Vals (vs.drop i) (us.drop i)
  | _, _, 0, h => ⟨.nil, h⟩
  | _, _, _ + 1, .nil => ⟨.nil, .nil⟩
  | _, _, i + 1, .cons r t => ⟨.cons r (vals_take i t).1, (vals_take i t).2⟩
theorem vals_app : ∀ {vs ws : List V} {us ts : List Value}, Vals vs us → Vals ws ts → Vals (vs ++ ws) (us ++ ts)
  | _, _, _, _, .nil, h => h
  | _, _, _, _, .cons r t, h => .cons r (vals_app t h)
theorem vals_ins {vs : List V} {us : List Value} {y : V} {u : Value} (h : Vals vs us) (r : RelV y u) (i : Nat) : Vals (vs.take i ++ y :: vs.drop i) (us.take i ++ u :: us.drop i) := vals_app (vals_take i h).1 (.cons r (vals_take i h).2)
theorem mt_insert {X : Cx} : MtM X "list.insert" rIns := by
  rintro pins s σ H x vs v us Q I rx rvs ⟨l, xs, i, y, rfl, rfl, hl, hi, hz, q⟩
  cases rx
  cases rvs with
  | cons r1 t =>
  rename_i u1 us1
  cases t with
  | cons r2 t =>
  rename_i u2 us2
  cases t
  obtain ⟨t1, rfl⟩ := r1
  obtain ⟨h1, its, n, rv, hat⟩ := I.hok l _ hl
  have el := rv.length
  have fits : Builtin.List.listFitsIndex (i : Int) = true := by
    unfold Builtin.List.listFitsIndex
    have : i ≤ 2 ^ 24 := Nat.le_trans hi (Nat.le_trans (Nat.le_of_lt hz) (by decide))
    simp only [Bool.and_eq_true, decide_eq_true_eq]
    omega
  have upd' : Vals (xs.take i ++ y :: xs.drop i) (its.take i ++ u2 :: its.drop i) := vals_ins rv r2 i
  refine call_meets (S := fun A R s => ∃ o its n, s.heap.get? l = some o ∧ o.data = .seq (List.toArray its) n ∧ i ≤ its.length ∧ its.length < sizeLine ∧ R (.ok (.ret .none)) { s with heap := s.heap.update l (Obj.mapSeq (insA i u2)) }) PySem.F.slot_list_insert ?_ PySem.F.entry_list_insert (PySem.F.args_list_insert_3 _ _ _) ?_ ?_
  · exact ⟨_, hat, rfl⟩
  · intro prog w A R s ⟨o, its, n, h1, h2, h3, h4, q⟩
    rw [ins_tree fits]
    refine wpAny_bind (listUpdate_at h1 h2 ?_ ?_ ?_)
    · exact wpAny_pure q
    · show its.toArray.size ≤ sizeLine
      rw [List.size_toArray]
      omega
    · show (insA i u2 its.toArray).size ≤ sizeLine + 1
      rw [insA_eq h3, List.size_toArray, List.length_append, List.length_cons, List.length_take, List.length_drop]
      omega
  · refine ⟨_, its, n, hat, rfl, by omega, by omega, ?_⟩
    exact ⟨.non, _, I.lset hl hat (insA_eq (by omega)) upd' (by rw [List.length_append, List.length_cons, List.length_take, List.length_drop]; omega), rfl, q⟩
section
variable {X : Cx} {e e1 : Expr} {te te1 : TEd}
/-- xs.insert(i, e) -/
def dIns (to ti te : TEd) : TEd := fun e st Q => to e st fun o st1 => match o with
  | .own a => (st1 a).isSome = true ∧ ti e st1 fun x st2 => match x with
    | .d (.int i) => te e st2 fun d st3 => ∃ ds, ∃ j : Nat, i = j ∧ st3 a = some ds ∧ j ≤ ds.length ∧ ds.length < sizeLine ∧ Q (.d .none) (put st3 a (ds.take j ++ d :: ds.drop j))
    | _ => False
  | _ => False
theorem paired_ins {α β : Type} {R : α → β → Prop} : ∀ {xs : List α} {ys : List β} {x : α} {y : β} (i : Nat), Paired R xs ys → R x y → Paired R (xs.take i ++ x :: xs.drop i) (ys.take i ++ y :: ys.drop i)
  | _, _, _, _, 0, h, r => .cons r h
  | _, _, _, _, _ + 1, .nil, r => .cons r .nil
  | _, _, _, _, i + 1, .cons h t, r => .cons h (paired_ins i t r)
theorem pd_insert {o : Expr} {to ti : TEd} {apos cpos : Pos} (ho : PD X o to) (hi : PD X e1 ti) (ha : PD X e te)
    (hbase : attributeBase o "insert" X.env (eval o X.env) = eval o X.env := by rfl) (hline : (apos.endLine == cpos.line) = true := by rfl)
    (hs0 : starEach [e1, e] X.env = (false, eval e1 X.env) :: starEach [e] X.env := by rfl) (hs1 : starEach [e] X.env = (false, eval e X.env) :: starEach [] X.env := by rfl)
    (hfew : ((backTo cpos (starEach [e1, e] X.env)).all (fun x => !x.1) && (backToKw cpos (keywordEach [] X.env)).all (fun x => x.1.isSome) && decide ([e1, e].length + ([] : List Keyword).length + (if ([] : List Keyword).isEmpty then 0 else 1) < 30)) = true := by rfl)
    (hplain : (backTo cpos (starEach [e] X.env)).any (·.1) = false := by rfl) : PD X (.Call (.Attribute o "insert" apos) [e1, e] [] cpos) (dIns to ti te) := by
  refine PE.imp (pe_bm PySem.F.plainAttrs_list PySem.F.slot_list_insert PySem.F.type_list_insert mt_insert ho (pa_cons hi (pa_cons ha pa_nil hs1) hs0) hbase hfew hline hs0 hplain) fun σ H Q ⟨e, st, hid, Qd, re, S, h, k⟩ => ⟨e, st, hid, _, re, S, h, fun v H1 d st1 F1 S1 r q => ?_⟩
  cases r with
  | d h => exact q.elim
  | scr h f => exact q.elim
  | own a =>
    obtain ⟨h0, q⟩ := q
    obtain ⟨ds, e1⟩ := Option.isSome_iff_exists.mp h0
    obtain ⟨vs, hv, rv⟩ := S1.at_ e1
    refine ⟨.inl ⟨rfl, vs, .inl (.inl hv)⟩, e, st1, hid, _, re.mono F1 S.sr, S1, q, fun y H2 dy st2 F2 S2 ry q2 => ?_⟩
    cases ry with
    | own _ => exact q2.elim
    | scr _ _ => exact q2.elim
    | d ry =>
      cases ry with
      | int i =>
        refine ⟨e, st2, hid, _, (re.mono F1 S.sr).mono F2 S1.sr, S2, q2, fun z H3 dz st3 F3 S3 rz ⟨es, j, ej, e2, hj, hz, q3⟩ => ?_⟩
        subst ej
        obtain ⟨ws, hw, rw'⟩ := S3.at_ e2
        have F4 : FrX st3 hid H3 (put st3 a (es.take j ++ dz :: es.drop j)) (upd H3 a (.lst (ws.take j ++ z :: ws.drop j))) := fx_put e2
        have ln := Paired.length rw'
        exact ⟨a, ws, j, z, rfl, rfl, hw, by omega, by omega, k _ _ _ _ (Fr.trans F1 (Fr.trans F2 (Fr.trans F3 F4))) (S3.store e2 (paired_ins j rw' rz)) (.d .non) q3⟩
      | _ => exact q2.elim
end
end DL
namespace DL
open PySem PySem.Spec PyProof.Rows L2
section
variable {X : Cx} {e : Expr} {te : TEd}
/-- x += e, of whole numbers -/
def dAug (i : Nat) (te : TEd) : TSd := fun E e st => ∃ x : Int, e[i]? = some (some (.d (.int x))) ∧ te e st fun y st1 => match y with
  | .d (.int j) => E.nx (e.set i (some (.d (.int (x + j))))) st1
  | _ => False
theorem psd_aug {i : Nat} {x : Str} {pos pos' : Pos} (hN : X.N.Nodup) (hi : X.N[i]? = some x) (hx : Loc X.env.scope x) (he : PD X e te) (hf : X.fn x = true ∨ X.env.scope.names.lookup x = some .local := by first | exact .inl rfl | exact .inr rfl | assumption) :
    PDS X (.AugAssign (.Name x pos') .Add e pos) (dAug i te) := PS.imp (ps_aug hN hi hx he ip_add hf) fun D σ H ⟨e, st, hid, E, re, S, ⟨x, hx, h⟩, k1, k2, k3, k4⟩ => by
  obtain ⟨v, hv, rv⟩ := re.at_ i _ hx
  cases rv with
  | d rv =>
  cases rv
  refine ⟨_, hv, e, st, hid, _, re, S, h, fun y H1 d st1 F1 S1 r q => ?_⟩
  cases r with
  | own _ => exact q.elim
  | scr _ _ => exact q.elim
  | d r =>
    cases r with
    | int j => exact ⟨x, j, rfl, rfl, k1 _ H1 _ st1 F1 S1 ((re.mono F1 S.sr).set (.d (.int _))) q⟩
    | _ => exact q.elim
/-- x = y = e -/
def dTwo (i j : Nat) (te : TEd) : TSd := fun E e st => te e st (frz fun d st1 => E.nx ((e.set i (some d)).set j (some d)) st1)
theorem psd_two {i j : Nat} {x y : Str} {px py pos : Pos} (hN : X.N.Nodup) (hi : X.N[i]? = some x) (hj : X.N[j]? = some y) (hx : Loc X.env.scope x) (hy : Loc X.env.scope y) (he : PD X e te)
    (hf : X.fn x = true ∨ X.env.scope.names.lookup x = some .local := by first | exact .inl rfl | exact .inr rfl | assumption) (hg : X.fn y = true ∨ X.env.scope.names.lookup y = some .local := by first | exact .inl rfl | exact .inr rfl | assumption)
    (h1 : (assignEach [.Name x px, .Name y py] X.env).map (·.2) = [assign (.Name x px) X.env, assign (.Name y py) X.env] := by rfl) (h2 : swappedStores [.Name x px, .Name y py] e X.env = pure none := by rfl) :
    PDS X (.Assign [.Name x px, .Name y py] e pos) (dTwo i j te) := ⟨fun pins s σ H D I ⟨e, st, hid, E, re, S, h, k1, k2, k3, k4⟩ =>
  wpAny_Assign_two (thn (he.run pins s σ H (fun v H1 => D.nx ((σ.set i (some v)).set j (some v)) H1) I ⟨e, st, hid, _, re, S, h, frz_go fun v H1 d st1 F1 S1 r q => k1 _ H1 _ st1 F1 S1 (((re.mono F1 S.sr).set r).set r) q⟩) fun u s1 ⟨v, H1, I1, r, q⟩ =>
    thn ((pg_name hN hi hx hf).run pins s1 σ H1 v u (fun σ' H' => σ' = σ.set i (some v) ∧ H' = H1) I1 r ⟨rfl, rfl⟩) fun _ s2 ⟨σ', H', I2, e1, e2⟩ => by
      subst e1
      subst e2
      exact thn ((pg_name hN hj hy hg).run pins s2 _ _ v u (fun σ' H' => D.nx σ' H') I2 r q) fun _ s3 w => w) h1 h2⟩
/-- a def, as a value -/
def dOwnG (f : Addr) : TEd := fun e st Q => Q (.own f) st
theorem pd_gfn {x : Str} {pos : Pos} {f : Addr} (hg : Gl X x) (hm : X.mg x = some (.ref f)) (hdb : (x == ("__debug__" : Str)) = false := by decide) : PD X (.Name x pos) (dOwnG f) :=
  PE.imp (pe_glob (v := .ref f) hg hm rfl hdb) fun σ H Q ⟨e, st, hid, Qd, re, S, h, k⟩ => k.now S (.own f) h
theorem pd_gint {x : Str} {pos : Pos} {n : Int} (hg : Gl X x) (hm : ∃ t, X.mg x = some (.int n t)) (hdb : (x == ("__debug__" : Str)) = false := by decide) : PD X (.Name x pos) (dC (.int n)) := by
  obtain ⟨t, hm⟩ := hm
  exact PE.imp (pe_glob (v := .int n) hg hm ⟨t, rfl⟩ hdb) fun σ H Q ⟨e, st, hid, Qd, re, S, h, k⟩ => k.now S (.d (.int n)) h
/-- g(..), g being a local name that holds a def -/
def dFnL (sp : SpD) (i : Nat) (f : Addr) (t : TAd) : TEd := fun e st Q => e[i]? = some (some (.own f)) ∧ t e st fun xs st1 => sp xs st1 Q
theorem pd_fnL {k : Nat} {f : Addr} {fd : FuncData} {ps : List Str} {sp : SpD} {i : Nat} {x : Str} {p pos : Pos} {es : List Expr} {t : TAd} (F : FnD X.prog X.w X.K X.mg X.base k f fd ps sp) (hG : X.A.guards = some []) (hr : Room k X.A) (hi : X.N[i]? = some x) (hv : Vis X.env.scope x) (hk : PySem.W.keepIn X.K (.ref f) = true) (hb : Binds X.K fd ps [])
    (ha : PDA X (e :: es) t) (hd : (x == ("__debug__" : Str)) = false := by decide) (hcd : (x == ("__classdict__" : Str)) = false := by decide) (he : starEach (e :: es) X.env = (false, eval e X.env) :: starEach es X.env := by rfl)
    (hpl : (backTo pos (starEach es X.env)).any (·.1) = false := by rfl) : PD X (.Call (.Name x p) (e :: es) [] pos) (dFnL sp i f t) := by
  refine ⟨fun pins s σ H Q I ⟨en, st, hid, Qd, re, S, ⟨hf, h⟩, g⟩ => ?_⟩
  obtain ⟨v, hv1, rv⟩ := re.at_ i _ hf
  cases rv
  refine wpAny_Call_Name_kw (thn ((pe_var (pos := p) hi hv hd hcd).run pins s σ H (fun v' H' => v' = .ref f ∧ H' = H) I ⟨_, hv1, rfl, rfl⟩) fun u s1 ⟨v', H', I1, r1, e1, e2⟩ => ?_)
  subst e1
  subst e2
  cases r1
  refine PySem.W.callWith_K (h₀ := X.base) I1.ok.mod.kin hk (thn (ha.run pos pins s1 σ H' (fun vs H1 => upSp X.K sp vs H1 Q E0) I1 ⟨en, st, hid, _, re, S, h, fun vs H1 ds1 st1 F1 S1 r1 h1 => ?_⟩) fun us s2 ⟨vs, H1, I2, r, q⟩ => ⟨I2.kIn, ?_⟩) he hpl
  · show upSp X.K sp vs H1 Q E0
    exact ⟨_, st1, hid, Qd, r1, S1, h1, Go.mono g F1⟩
  · exact run_fg F hG hr I2 (fun hl => by have := hb s2 us I2.kIn (by simpa using hl); simpa using this) r q
end
end DL
namespace DL
open PySem PySem.Spec PyProof.Rows L2
theorem lcP_imp {X : Cx} {M : List D → Sto → Kd → Prop} (hM : ∀ ds st Q, M ds st Q → mkL ds st Q) {ti : TId} {tt : TTd} {te : TEd} (p : Pat) (own : List (Str × Nat)) (ho : ∀ i, i ∈ own.map (·.2) ↔ i ∈ slots p) {σ : L2.St} {H : Hp} {Q : VK} (w : up X.K (dLcP M ti p tt te) σ H Q) : tLc (upI X.K ti) (gP X.K p) (upT X.K tt) (up X.K te) (own.map (·.2)) σ H Q := by
  obtain ⟨e, st, hid, Qd, re, S, h, k⟩ := w
  refine ⟨e, st, hid, _, re, S, h, fun J H1 it st1 F1 S1 ok1 at1 ⟨W, w0, turn⟩ p' hp => ?_⟩
  have n1 := jn_free (S1.sr.free0 hp)
  refine ⟨fun j m H2 => m = it.xs.length - j ∧ ∃ acc st2, W j acc st2 ∧ Sx X.K (put st2 p' acc) hid H2 ∧ st2 p' = none ∧ Fr (jn (put st1 p' []) hid) (upd H1 p' (.lst [])) (jn (put st2 p' acc) hid) H2, ⟨it.xs.length, by simp, [], st1, w0, S1.own hp .nil, n1.1, Fr.refl _ _⟩, ?_⟩
  rintro j m H2 ⟨rfl, acc, st2, w2, S2, n2, F2⟩
  obtain ⟨at2, done, go⟩ := turn j acc st2 w2
  have Sh := S2.hide n2
  have eqF : jn st2 (put hid p' acc) = jn (put st2 p' acc) hid := jn_swap n2
  have F12 : Fr (jn st1 hid) H1 (jn (put st2 p' acc) hid) H2 := Fr.trans (fx_own hp) F2
  have F02 : Fr (jn st hid) H (jn (put st2 p' acc) hid) H2 := Fr.trans F1 F12
  have atF : it.at (jn (put st2 p' acc) hid) := fun a ds z => by
    have e1 := at2 a ds z
    have ne : a ≠ p' := fun z' => by
      rw [z', n2] at e1
      cases e1
    exact jn_some (by rw [put_ne ne]; exact e1)
  have It := ok1 j _ H2 F12 S2.sr atF
  by_cases hj : it.xs.length ≤ j
  · refine .inl ⟨It.2 hj, ?_⟩
    obtain ⟨vs, hv, rv⟩ := S2.at_ put_same
    rcases hM _ _ _ (done hj) with ⟨xs, ep, q⟩ | q
    · have ea := pures_eq ep
      subst ea
      obtain ⟨Sc, Fc, fc⟩ := S2.frz put_same
      have ec : cut (put st2 p' (xs.map D.d)) p' = st2 := by
        funext b
        by_cases eb : b = p'
        · rw [eb, cut_same, n2]
        · rw [cut_ne eb, put_ne eb]
      rw [ec] at Sc Fc fc
      exact k _ H2 _ st2 (Fr.trans F02 Fc) Sc (.d (.lst hv fc ((Dvs.of rv).mono Fc S2.sr))) q
    · exact k _ H2 _ _ F02 S2 (.own p') (q p' n2)
  · have hlt : j < it.xs.length := Nat.lt_of_not_le hj
    have ed : it.xs[j]? = some it.xs[j] := List.getElem?_eq_getElem hlt
    obtain ⟨g1, g2⟩ := It.1 _ ed
    refine .inr ⟨g1, fun H' => ∃ acc' st', W (j + 1) acc' st' ∧ Sx X.K (put st' p' acc') hid H' ∧ st' p' = none ∧ Fr (jn (put st1 p' []) hid) (upd H1 p' (.lst [])) (jn (put st' p' acc') hid) H', fun H' ⟨acc', st', h1, h2, h3, h4⟩ => ⟨it.xs.length - (j + 1), by omega, rfl, acc', st', h1, h2, h3, h4⟩, fun x H3 hy => ?_⟩
    obtain ⟨F23, S3r, rx⟩ := g2 x H3 hy
    obtain ⟨xd, e', exd, he', go2⟩ := go _ ed
    rw [exd] at rx
    cases rx with
    | d rx =>
    have S3 : Sx X.K (put st2 p' acc) hid H3 := ⟨S2.dj, S3r⟩
    have S3h := S3.hide n2
    have F03 := Fr.trans F02 F23
    have reo : REo X.K (jn (put st2 p' acc) hid) H3 (· ∈ own.map (·.2)) (wipe σ (own.map (·.2))) e := (re.mono F03 S.sr).off _
    refine gP_go p reo rx he' (fun i hi => (ho i).mpr hi) fun σ2 r2 w2 => ?_
    have reX : RE X.K (jn st2 (put hid p' acc)) H3 σ2 e' := by
      rw [eqF]
      exact r2.on fun i hi => hi.2 ((ho i).mp hi.1)
    have ww : wipe (wipe σ (own.map (·.2))) (own.map (·.2)) = wipe σ (own.map (·.2)) := by
      refine List.ext_getElem? fun i => ?_
      by_cases hi : i ∈ own.map (·.2)
      · by_cases hl : i < σ.length
        · rw [wipe_in hi (by rw [wipe_length]; exact hl), wipe_in hi hl]
        · rw [List.getElem?_eq_none (by rw [wipe_length, wipe_length]; omega), List.getElem?_eq_none (by rw [wipe_length]; omega)]
      · rw [wipe_at hi]
    refine ⟨w2.trans ww, ?_⟩
    refine ⟨_, st2, put hid p' acc, _, reX, S3h, go2, fun b H4 st4 F4 S4 q4 => ?_⟩
    have hn : hid p' = none := n1.2
    have F3X : Fr (jn (put st1 p' []) hid) (upd H1 p' (.lst [])) (jn st2 (put hid p' acc)) H3 := by
      rw [eqF]
      exact Fr.trans F2 F23
    cases b with
    | false =>
      rw [if_neg Bool.false_ne_true] at q4
      refine iteF ?_
      obtain ⟨S4', n4⟩ := S4.shown hn
      refine ⟨acc, st4, q4, S4', n4, ?_⟩
      rw [← jn_swap n4]
      exact Fr.trans F3X F4
    | true =>
      rw [if_pos rfl] at q4
      refine iteT ?_
      refine ⟨_, st4, put hid p' acc, _, reX.mono F4 S3h.sr, S4, q4, fun v H5 d st5 F5 S5 r5 ⟨hz, w5⟩ => ?_⟩
      obtain ⟨S5', n5⟩ := S5.shown hn
      obtain ⟨vs, hv, rv⟩ := S5'.at_ put_same
      rw [jn_swap n5] at r5
      refine ⟨vs, hv, by rw [Paired.length rv]; exact hz, acc ++ [d], st5, w5, ?_, n5, ?_⟩
      · have := S5'.store (es := acc ++ [d]) put_same (DvsD.snoc rv r5)
        have ee : put (put st5 p' acc) p' (acc ++ [d]) = put st5 p' (acc ++ [d]) := by
          funext b
          by_cases eb : b = p'
          · rw [eb, put_same, put_same]
          · rw [put_ne eb, put_ne eb, put_ne eb]
        rw [ee] at this
        exact this
      · have Fa : Fr (jn (put st1 p' []) hid) (upd H1 p' (.lst [])) (jn (put st5 p' acc) hid) H5 := by
          rw [← jn_swap n5]
          exact Fr.trans F3X (Fr.trans F4 F5)
        intro b o hb hf
        have ne : b ≠ p' := fun z => by
          rw [z, jn_some put_same] at hf
          cases hf
        obtain ⟨z1, z2⟩ := Fa b o hb hf
        refine ⟨by rw [upd_ne ne]; exact z1, ?_⟩
        unfold jn at z2 ⊢
        rw [put_ne ne] at z2 ⊢
        exact z2
theorem psd_setLcP {X : Cx} {M : List D → Sto → Kd → Prop} (hM : ∀ ds st Q, M ds st Q → mkL ds st Q) {i : Nat} {x : Str} {pos' spos : Pos} {elt iter tg : Expr} {ifs : List Expr} {scope : Scope} {pos : Pos} {ti : TId} {tt : TTd} {te : TEd} (p : Pat) (own : List (Str × Nat)) (ho : ∀ i, i ∈ own.map (·.2) ↔ i ∈ slots p) (hc : X.calm = true) (hN : X.N.Nodup) (hi : X.N[i]? = some x) (hx : X.env.scope.names.lookup x = some .local)
    (hs : swapsWith (.ListComp elt [⟨tg, iter, ifs, 0⟩] scope pos) (some (.Name x pos')) spos.line X.env = pure true) (hit : PDI X tg iter ti) (ok : BlkOk X.N X.env.scope scope own)
    (hg : ∀ (s : Shared) (H : Hp) (C : Addr) (cl : List (Str × Addr)) (fp : List Addr), PG (X.blk s H scope (compEnvC scope cl C X.env) fp) tg (gP X.K p))
    (ht : ∀ (s : Shared) (H : Hp) (C : Addr) (cl : List (Str × Addr)) (fp : List Addr), PDTs (X.blk s H scope (compEnvC scope cl C X.env) fp) ifs tt)
    (he : ∀ (s : Shared) (H : Hp) (C : Addr) (cl : List (Str × Addr)) (fp : List Addr), PD (X.blk s H scope (compEnvC scope cl C X.env) fp) elt te) (hf : ∀ x, foldedSetIterable iter X.env x = pure x := by intro _; rfl) :
    PDS X (.Assign [.Name x pos'] (.ListComp elt [⟨tg, iter, ifs, 0⟩] scope pos) spos) (dAsg (dLcP M ti p tt te) (hName i)) :=
  PS.imp (ps_setLc (own := own) (wi := upI X.K ti) (g := gP X.K p) (tt := upT X.K tt) (te := up X.K te) hc hN hi hx hs hit ok hg ht he hf) fun D σ H ⟨e, st, hid, E, re, S, h, k1, k2, k3, k4⟩ =>
    lcP_imp hM p own ho ⟨e, st, hid, _, re, S, h, frz_go fun v H1 d st1 F1 S1 r q => k1 _ H1 _ st1 F1 S1 ((re.mono F1 S.sr).set r) q⟩
end DL
namespace DL
open PySem PySem.Spec PyProof.Rows L2
/-- a, b, .. = x, y, .. by way of a tuple -/
def dUnp (n : Nat) (t : TAd) (u : TGsd) : TSd := fun E e st => t e st fun ds st1 => ds.length = n ∧ u ds e st1 E.nx
theorem psd_unp {X : Cx} {es gs : List Expr} {k k2 n : Nat} {pos pos1 pos2 : Pos} {t : TAd} {u : TGsd} (hc : X.calm = true) (ha : PDA X es t) (hgs : PDGs X gs u)
    (hn : (assignEach gs X.env).length = n := by rfl) (hst : (assignEach gs X.env).findIdx? (·.1) = none := by rfl)
    (hs : swapsWithSole [.Tuple gs k pos1] (.Tuple es k2 pos2) pos.line X.env = pure false := by rfl) (hw : swappedStores [.Tuple gs k pos1] (.Tuple es k2 pos2) X.env = pure none := by rfl)
    (h1 : (assignEach [.Tuple gs k pos1] X.env).map (·.2) = [assign (.Tuple gs k pos1) X.env] := by rfl) (hz : n ≤ sizeLine := by decide) : PDS X (.Assign [.Tuple gs k pos1] (.Tuple es k2 pos2) pos) (dUnp n t u) :=
  PS.imp (ps_asg (pe_tup ha) (pg_tup hc hgs hn hst) hs hw h1) fun D σ H ⟨e, st, hid, E, re, S, h, k1, k2, k3, k4⟩ => by
    refine ⟨e, st, hid, _, re, S, h, fun vs H1 ds st1 F1 S1 r1 ⟨hl, q⟩ => ?_⟩
    have ln := Paired.length r1
    refine ⟨by omega, fun p hp => ?_⟩
    have F2 : Fr (jn st1 hid) H1 (jn st1 hid) (upd H1 p (.tup vs)) := fr_new hp
    exact ⟨p, vs, rfl, .inl (.inl upd_same), by omega, ds, e, st1, hid, E.nx, DvsD.mono F2 S1.sr r1, (re.mono F1 S.sr).mono F2 S1.sr, S1.new hp, q, GoS.mono k1 (Fr.trans F1 F2)⟩
end DL
namespace DL
open PySem PySem.Spec PyProof.Rows L2
/-! ### a module's own tuple of texts -/
structure GTup (K : PySem.W.Frag) (mg : Str → Option Value) (x : Str) (ts : List Str) : Prop where
  ex : ∃ a o its n, mg x = some (.ref a) ∧ List.lookup a K = some o ∧ o.cls = Value.type "tuple" ∧ o.data = Data.seq its n ∧ its.size ≤ sizeLine ∧ Vals (ts.map V.str) its.toList
theorem strs_to {K : PySem.W.Frag} {st : Sto} {H : Hp} : ∀ ts : List Str, Dvs K st H (ts.map V.str) (ts.map PyData.str)
  | [] => .nil
  | t :: r => .cons (.str t) (strs_to r)
theorem pd_gtup {X : Cx} {x : Str} {pos : Pos} {ts : List Str} (hg : Gl X x) (h : GTup X.K X.mg x ts) (hdb : (x == ("__debug__" : Str)) = false := by decide) : PD X (.Name x pos) (dC (.tuple (ts.map PyData.str))) := by
  obtain ⟨a, o, its, n, hm, h1, h2, h3, h4, h5⟩ := h.ex
  exact PE.imp (pe_glob (v := .ref a) hg hm rfl hdb) fun σ H Q ⟨e, st, hid, Qd, re, S, h, k⟩ => k.now S (.d (.tup (.inr ⟨o, its, n, h1, h2, h3, h4, h5⟩) (strs_to ts))) h
end DL
namespace DL
open PySem PySem.Spec PyProof.Rows L2
/-! ### defs whose last parameters have defaults -/
section
variable {P : Program} {w : World} {K : PySem.W.Frag} {mg : Str → Option Value} {base : Heap}
theorem fnD_okD {x qual : Str} {st : Stmt} {f : Addr} {fd : FuncData} {N ps : List Str} {dvs : List V} {kws : List (Str × V)} {k : Nat} {sp : SpD} {t : TSd} (F : FunD K x qual (defArgs st) (defBody st) (defScope st) dvs kws f fd) (S : FnScope N ps (defScope st)) (len : ∀ ds s Q, sp ds s Q → ds.length = ps.length)
    (hbody : ∀ (cd : Value) (A : Around) (outer : List Env) (s : Shared) (H : Hp) (E : XK), A.guards = some [] → Room k (A.deeper (envOfC qual (defScope st) s.heap.objs.size f cd)) → PDSs (cxD P w K mg base N qual (defScope st) f cd A outer s H E) (defBody st) t)
    (hsp : ∀ ds s Q, sp ds s Q → t { nx := fun _ s' => Q (.d .none) s', rt := Q } (startD N ds) s) : FnD P w K mg base (k + 1) f fd ps sp := by
  obtain ⟨oc, od, dV, kV, doc, pm, an, cd, ct, osl, rfl, lk, hcd, _, _⟩ := F.ex
  have lenV : ∀ vs H Q E, upSp K sp vs H Q E → vs.length = ps.length := fun vs H Q E ⟨ds, s, hid, Qd, r, _, h, _⟩ => (Paired.length r).trans (len ds s Qd h)
  refine ⟨lenV, fun A outer s H args us vs Q E hg hr e0 hb r hq => ?_⟩
  have KX : K.In s.heap := e0.mod.kin.keeps fun b o e => (e0.bs b o e).1
  have lim : s.heap.NoLimit := e0.mod.nolimit.keeps fun b o e => (e0.bs b o e).1
  have hkind : ∀ y ∈ ps.zip us, (defScope st).names.lookup y.1 = some .local ∨ ((defScope st).names.lookup y.1 = some .cell ∧ ((cellsFrom (s.heap.objs.size + 1) (defScope st).names []).lookup y.1).isSome = true) := fun y hy =>
    (S.par y.1 (List.of_mem_zip (show (y.1, y.2) ∈ ps.zip us from hy)).1).elim .inl fun q => .inr ⟨q, PySem.W.cellsFrom_some _ _ _ (.inl q)⟩
  refine codeAny_call_function hr.depth (KX _ _ lk) rfl S.co S.gen rfl (PySem.W.codeRec_of KX hcd) (hb _ _ _ _ (wpAny_newFunctionEnv_cells S.kind hkind fun env he s1 x1 => ?_))
  subst he
  refine ⟨lim.keeps x1.toInCall.keep, codeAny_func ?_⟩
  have ht := (hbody cd A outer s H E hg (hr.deeper _)).nox
  have I := inv_start (CX := CX0) (K := K) (mg := mg) (base := base) (E := E) S hr.hd e0 (lenV _ _ _ _ hq) r x1
  obtain ⟨ds, sd, hid, Qd, rd, Sd, hd, gd⟩ := hq
  have rdy : upS K t { nx := fun _ H' => Q .non H', rt := Q } (L2.start N vs) H := by
    refine ⟨startD N ds, sd, hid, { nx := fun _ s' => Qd (.d .none) s', rt := Qd }, re_start rd, Sd, hsp ds sd Qd hd, ?_, gd, ?_, ?_⟩
    · exact fun _ H' _ st' F' S' _ q => gd .non H' _ st' F' S' (.d .non) q
    · exact fun _ _ _ _ _ _ _ q => q.elim
    · exact fun _ _ _ _ _ _ _ q => q.elim
  refine wpAny_mono (ht.run [] s1 (L2.start N vs) H _ I rdy) (fun fl s' hs => ?_) fun e s' hs => hs
  cases fl with
  | ret u =>
    obtain ⟨v, σ', H', J, rv, q⟩ := hs
    exact ⟨v, H', J.os, J.bare, J.base, J.hok, rv, q⟩
  | next =>
    obtain ⟨σ', H', J, q⟩ := hs
    exact ⟨.non, H', J.os, J.bare, J.base, J.hok, rfl, q⟩
  | brk =>
    obtain ⟨_, _, _, q⟩ := hs
    exact False.elim q
  | cont =>
    obtain ⟨_, _, _, q⟩ := hs
    exact False.elim q
/-- a def with defaults, where it stands -/
structure HasD (K : PySem.W.Frag) (mg : Str → Option Value) (x : Str) (st : Stmt) (dvs : List V) : Prop where
  ex : ∃ f fd, mg x = some (.ref f) ∧ FunD K x x (defArgs st) (defBody st) (defScope st) dvs [] f fd
/-- callable with a promise, with all arguments or with those ahead of the defaults -/
structure CanD (P : Program) (w : World) (K : PySem.W.Frag) (mg : Str → Option Value) (base : Heap) (k : Nat) (x : Str) (dvs : List V) (ps : List Str) (sp : SpD) : Prop where
  ex : ∃ f fd, FnD P w K mg base k f fd ps sp ∧ mg x = some (.ref f) ∧ PySem.W.keepIn K (.ref f) = true ∧ Binds K fd ps [] ∧ ∃ ds, Vals dvs ds ∧ Binds K fd ps ds
theorem canD_of {x : Str} {st : Stmt} {N ps : List Str} {dvs : List V} {k : Nat} {sp : SpD} {t : TSd} (F : HasD K mg x st dvs) (S : FnScope N ps (defScope st)) (hd : dvs ≠ []) (n : Nat) (hn : n + dvs.length = ps.length)
    (b0 : ∀ (T : Addr) (kV doc pm : Value) (an : Option Addr) (cdv ct : Value) (us its : List Value), us.length = ps.length → its.length = dvs.length →
      ∃ k, bindArgs (PySem.W.fnOf x x (defArgs st) (defBody st) (defScope st) (.ref T) kV doc pm an cdv ct) ⟨us, []⟩ = seqItems? (.ref T) >>= k ∧ k (some its.toArray) = pure (ps.zip us))
    (b1 : ∀ (T : Addr) (kV doc pm : Value) (an : Option Addr) (cdv ct : Value) (us its : List Value), us.length = n → its.length = dvs.length →
      ∃ k, bindArgs (PySem.W.fnOf x x (defArgs st) (defBody st) (defScope st) (.ref T) kV doc pm an cdv ct) ⟨us, []⟩ = seqItems? (.ref T) >>= k ∧ k (some its.toArray) = pure (ps.zip (us ++ its)))
    (len : ∀ ds s Q, sp ds s Q → ds.length = ps.length)
    (hbody : ∀ (f : Addr) (cd : Value) (A : Around) (outer : List Env) (s : Shared) (H : Hp) (E : XK), A.guards = some [] → Room k (A.deeper (envOfC x (defScope st) s.heap.objs.size f cd)) → PDSs (cxD P w K mg base N x (defScope st) f cd A outer s H E) (defBody st) t)
    (hsp : ∀ ds s Q, sp ds s Q → t { nx := fun _ s' => Q (.d .none) s', rt := Q } (startD N ds) s) : CanD P w K mg base (k + 1) x dvs ps sp := by
  obtain ⟨f, fd, hm, F⟩ := F.ex
  refine ⟨f, fd, fnD_okD F S len (hbody f) hsp, hm, F.kp, ?_, ?_⟩
  · obtain ⟨ds, v, B⟩ := F.binds1 (ps := ps) ps.length dvs.length hd (by omega) fun T kV doc pm an cdv ct us its h1 h2 => by
      obtain ⟨k, e1, e2⟩ := b0 T kV doc pm an cdv ct us its h1 h2
      refine ⟨k, e1, ?_⟩
      rw [e2, ← h2, List.drop_length, List.append_nil]
    rw [List.drop_length] at v
    cases v
    exact B
  · obtain ⟨ds, v, B⟩ := F.binds1 (ps := ps) n 0 hd (by omega) fun T kV doc pm an cdv ct us its h1 h2 => b1 T kV doc pm an cdv ct us its h1 h2
    exact ⟨ds, v, B⟩
end
section
variable {X : Cx} {k : Nat} {ps ks : List Str} {sp : SpD} {x : Str} {dvs : List V} {dds : List D} {p pos : Pos} {e : Expr} {es : List Expr} {kws : List Keyword} {t tk : TAd}
theorem pd_callD (C : CanD X.prog X.w X.K X.mg X.base k x dvs ps sp) (hG : X.A.guards = some []) (hr : Room k X.A) (hg : Gl X x) (ha : PDA X (e :: es) t) (hdb : (x == ("__debug__" : Str)) = false := by decide)
    (he : starEach (e :: es) X.env = (false, eval e X.env) :: starEach es X.env := by rfl) (hpl : (backTo pos (starEach es X.env)).any (·.1) = false := by rfl) : PD X (.Call (.Name x p) (e :: es) [] pos) (dFn0 sp t) := by
  obtain ⟨f, fd, F, hm, kp, B, _⟩ := C.ex
  refine PE.imp (pd_fn (dds := []) F hG hr hg hm kp B ⟨[], .nil, fun _ _ => .nil⟩ ha hdb he hpl) fun σ H Q ⟨e, s, hid, Qd, re, S, h, k⟩ => ⟨e, s, hid, Qd, re, S, ?_, k⟩
  have ee : (fun xs st1 => sp (xs ++ []) st1 Qd) = fun xs st1 => sp xs st1 Qd := by
    funext xs st1
    rw [List.append_nil]
  show t e s (fun xs st1 => sp (xs ++ []) st1 Qd)
  rw [ee]
  exact h
theorem pd_callDd (C : CanD X.prog X.w X.K X.mg X.base k x dvs ps sp) (hd : ∀ st H, DvsD X.K st H dvs dds) (hG : X.A.guards = some []) (hr : Room k X.A) (hg : Gl X x) (ha : PDA X (e :: es) t) (hdb : (x == ("__debug__" : Str)) = false := by decide)
    (he : starEach (e :: es) X.env = (false, eval e X.env) :: starEach es X.env := by rfl) (hpl : (backTo pos (starEach es X.env)).any (·.1) = false := by rfl) : PD X (.Call (.Name x p) (e :: es) [] pos) (dFn sp dds t) := by
  obtain ⟨f, fd, F, hm, kp, _, ds, v, B⟩ := C.ex
  exact pd_fn F hG hr hg hm kp B ⟨dvs, v, hd⟩ ha hdb he hpl
end
theorem gtup_mk {K : PySem.W.Frag} {h : Heap} {mg : Str → Option Value} {x : Str} {ts : List Str} {a : Addr} {o : Obj} {its : List Value} {n : Nat} (X : K.In h) (G : h.Ns mainGlobals mg)
    (e : PySem.W.nsIn K mainGlobals x = some (some (.ref a))) (l : K.lookup a = some o) (c : o.cls = Value.type "tuple") (d : o.data = .seq its.toArray n) (s : its.length ≤ sizeLine) (v : Vals (ts.map V.str) its) : GTup K mg x ts :=
  ⟨a, o, its.toArray, n, PySem.W.mg_of X G e, l, c, d, by simpa using s, by simpa using v⟩
theorem hasD_mk {K : PySem.W.Frag} {h : Heap} {mg : Str → Option Value} {x : Str} {st : Stmt} {dvs : List V} {f : Addr} {od an : Option Addr} {sl : Array (Option Value)} {oc kV dc pm cd ct : Value} {T : Addr} {o : Obj} {its : List Value} {n : Nat} (X : K.In h) (G : h.Ns mainGlobals mg)
    (a : PySem.W.nsIn K mainGlobals x = some (some (.ref f))) (l : K.lookup f = some ⟨oc, od, .func (PySem.W.fnOf x x (defArgs st) (defBody st) (defScope st) (.ref T) kV dc pm an cd ct), sl⟩) (c : PySem.W.codeIn K cd x = true) (k : PySem.W.keepIn K (.ref f) = true)
    (hd : dvs ≠ []) (lT : K.lookup T = some o) (oT : o.data = .seq its.toArray n) (vT : Vals dvs its) : HasD K mg x st dvs :=
  ⟨f, _, PySem.W.mg_of X G a, ⟨oc, od, _, kV, dc, pm, an, cd, ct, sl, rfl, l, c, .inr ⟨hd, T, o, its, n, rfl, lT, oT, vT⟩, .inl rfl⟩, k⟩
end DL
namespace DL
open PySem PySem.Spec PyProof.Rows L2
/-! ### int of a truth, max and sum of a list -/
section
variable {X : Cx}
def cIntB : RCd := fun ds st Q => match ds with
  | [.d (.int i)] => Q (.d (.int i)) st
  | [.d (.bool b)] => Q (.d (.int (if b = true then 1 else 0))) st
  | _ => False
theorem c_intB : CallR X (.type "int") (upC X.K cIntB) := CallR.imp call_int1 fun vs H Q ⟨ds, st, hid, Qd, r, S, w, k⟩ => by
  unfold cIntB at w
  split at w
  · obtain ⟨v, rfl, r1⟩ := r.one
    exact .inl ⟨_, by rw [int_at r1], k.now S (.d (.int _)) w⟩
  · obtain ⟨v, rfl, r1⟩ := r.one
    exact .inr ⟨_, by rw [bl_at r1], k.now S (.d (.int _)) w⟩
  · exact w.elim
theorem ints_at {K : PySem.W.Frag} {st hid : Sto} {H : Hp} : ∀ {vs : List V} {ns : List Int}, DvsD K (jn st hid) H vs (ns.map fun n => .d (.int n)) → vs = ns.map V.int
  | [], [], _ => rfl
  | _ :: _, n :: ns, .cons h t => by
    have e := int_at h
    have e2 := ints_at t
    subst e
    rw [e2]
    rfl
def cMaxL : RCd := fun ds st Q => match ds with
  | [x] => ∃ ns : List Int, lstOf x st = some (ns.map fun n => .d (.int n)) ∧ 0 < ns.length ∧ ∀ m, m ∈ ns → (∀ y, y ∈ ns → y ≤ m) → Q (.d (.int m)) st
  | _ => False
theorem c_maxL (hc : X.calm = true) : CallR X (.builtin "max") (upC X.K cMaxL) := CallR.imp (cr_max hc) fun vs H Q ⟨ds, st, hid, Qd, r, S, w, k⟩ => by
  unfold cMaxL at w
  split at w
  · obtain ⟨ns, e, h0, q⟩ := w
    obtain ⟨v, rfl, r1⟩ := r.one
    obtain ⟨a, xs, rfl, h, rs⟩ := lstOf_at r1 S e
    rw [ints_at rs] at h
    exact ⟨a, ns, rfl, h, h0, fun m hm hy => k.now S (.d (.int _)) (q m hm hy)⟩
  · exact w.elim
def cSumL : RCd := fun ds st Q => match ds with
  | [x] => ∃ ns : List Int, lstOf x st = some (ns.map fun n => .d (.int n)) ∧ Q (.d (.int ns.sum)) st
  | _ => False
theorem c_sumL (hc : X.calm = true) : CallR X (.builtin "sum") (upC X.K cSumL) := CallR.imp (cr_sum hc) fun vs H Q ⟨ds, st, hid, Qd, r, S, w, k⟩ => by
  unfold cSumL at w
  split at w
  · obtain ⟨ns, e, q⟩ := w
    obtain ⟨v, rfl, r1⟩ := r.one
    obtain ⟨a, xs, rfl, h, rs⟩ := lstOf_at r1 S e
    rw [ints_at rs] at h
    exact ⟨a, ns, rfl, h, k.now S (.d (.int _)) q⟩
  · exact w.elim
end
end DL
namespace DL
open PySem PySem.Spec PyProof.Rows L2
theorem cut_from {α : Type} {l : List α} {i : Nat} (h : i ≤ l.length) : cutP l (some (i : Int)) none = l.drop i := by
  have e1 : HT.sIx l.length 0 (some (i : Int)) = i := by
    show (if (i : Int) < 0 then ((i : Int) + ↑l.length).toNat else min (i : Int).toNat l.length) = i
    rw [if_neg (by omega)]
    omega
  have e2 : HT.sIx l.length l.length none = l.length := rfl
  unfold cutP
  rw [e1, e2]
  exact List.take_of_length_le (by rw [List.length_drop]; omega)
theorem cut_to {α : Type} {l : List α} {i : Nat} (h : i ≤ l.length) : cutP l none (some (i : Int)) = l.take i := by
  have e1 : HT.sIx l.length l.length (some (i : Int)) = i := by
    show (if (i : Int) < 0 then ((i : Int) + ↑l.length).toNat else min (i : Int).toNat l.length) = i
    rw [if_neg (by omega)]
    omega
  have e2 : HT.sIx l.length 0 none = 0 := rfl
  unfold cutP
  rw [e1, e2]
  rfl
theorem cut_last {α : Type} {l : List α} : cutP l none (some (-1)) = l.take (l.length - 1) := by
  have e1 : HT.sIx l.length l.length (some (-1)) = l.length - 1 := by
    show (if (-1 : Int) < 0 then ((-1 : Int) + ↑l.length).toNat else min (-1 : Int).toNat l.length) = l.length - 1
    rw [if_pos (by omega)]
    omega
  have e2 : HT.sIx l.length 0 none = 0 := rfl
  unfold cutP
  rw [e1, e2]
  rfl
theorem cut_at_last {α : Type} {l : List α} : cutP l (some (-1)) none = l.drop (l.length - 1) := by
  have e1 : HT.sIx l.length 0 (some (-1)) = l.length - 1 := by
    show (if (-1 : Int) < 0 then ((-1 : Int) + ↑l.length).toNat else min (-1 : Int).toNat l.length) = l.length - 1
    rw [if_pos (by omega)]
    omega
  have e2 : HT.sIx l.length l.length none = l.length := rfl
  unfold cutP
  rw [e1, e2]
  exact List.take_of_length_le (by rw [List.length_drop]; omega)
theorem cut_tail {α : Type} {a : α} {r : List α} : cutP (a :: r) (some 1) none = r := cut_from (i := 1) (by simp)
theorem in_strs (w : Str) (ws : List Str) : ((ws.map PyData.str).any fun z => PyData.eqv z (.str w)) = ws.contains w := by
  induction ws with
  | nil => rfl
  | cons a r ih =>
    rw [List.map_cons, List.any_cons, ih, List.contains_cons]
    congr 1
    show (a == w) = (w == a)
    rw [Bool.eq_iff_iff, beq_iff_eq, beq_iff_eq]
    exact eq_comm
theorem rin_strs {neg : Bool} {w : Str} {ws : List Str} {st : Sto} {Q : Kd} (h : Q (.d (.bool (neg != ws.contains w))) st) : rInV neg (.d (.str w)) (.d (.tuple (ws.map PyData.str))) st Q := by
  refine ⟨rfl, ?_, ?_⟩
  · rw [List.all_map]
    exact List.all_eq_true.mpr fun _ _ => rfl
  · rw [in_strs]
    exact h
theorem in_ints (w : Int) (ws : List Int) : ((ws.map PyData.int).any fun z => PyData.eqv z (.int w)) = ws.contains w := by
  induction ws with
  | nil => rfl
  | cons a r ih =>
    rw [List.map_cons, List.any_cons, ih, List.contains_cons]
    congr 1
    have : PyData.eqv (.int a) (.int w) = decide (a = w) := eqv_int
    rw [this, Bool.eq_iff_iff, decide_eq_true_iff, beq_iff_eq]
    exact eq_comm
theorem rin_intsL {neg : Bool} {w : Int} {ws : List Int} {st : Sto} {Q : Kd} (h : Q (.d (.bool (neg != ws.contains w))) st) : rInV neg (.d (.int w)) (.d (.list (ws.map PyData.int))) st Q := by
  refine ⟨ws.map PyData.int, rfl, .inl ⟨rfl, ?_⟩, ?_⟩
  · rw [List.all_map]
    exact List.all_eq_true.mpr fun _ _ => rfl
  · rw [in_ints]
    exact h
end DL
namespace LB
open PySem PySem.Spec PyProof.Rows L2 DL
abbrev N_is_whole : List Str := ["value"]
abbrev N_is_row : List Str := ["value", "low", "high"]
abbrev N_is_fraction : List Str := ["value"]
abbrev N_is_place : List Str := ["value"]
abbrev N_is_stretch : List Str := ["value"]
abbrev N_check_point : List Str := ["value"]
abbrev N_check_segment : List Str := ["value"]
abbrev N_sign : List Str := ["number"]
abbrev N_is_less : List Str := ["first", "second"]
abbrev N_is_ahead : List Str := ["first", "second"]
abbrev N_scaled : List Str := ["point", "x", "x_lower", "y", "y_lower", "w"]
abbrev N_crossed : List Str := ["first", "second"]
abbrev N_along : List Str := ["line", "triple"]
abbrev N_side_of : List Str := ["first", "second", "third"]
abbrev N_in_order : List Str := ["segment", "first", "second"]
abbrev N_lies_on : List Str := ["segment", "point", "low", "high"]
abbrev N_is_point : List Str := ["value"]
abbrev N_turn_of : List Str := ["point", "other", "third"]
abbrev N_is_on : List Str := ["segment", "point"]
abbrev N_spring : List Str := ["_law_script", "_law_turn", "_law_mixed", "_law_cell", "_law_own_here"]
abbrev N_draw : List Str := ["_law_spring_here", "_law_many", "_law_digit", "_law_seed"]
abbrev N_one_of : List Str := ["_law_spring_here", "_law_some"]
abbrev N_divisor : List Str := ["_law_one", "_law_two", "_law_far", "_law_rest"]
abbrev N_part : List Str := ["_law_top", "_law_base", "_law_far"]
abbrev N_place : List Str := ["_law_x", "_law_y", "_law_w", "_law_far"]
abbrev N_told : List Str := ["_law_place_here"]
abbrev N_own : List Str := ["_law_told_here", "_law_a", "_law_b", "_law_c", "_law_d"]
abbrev N_side : List Str := ["_law_p", "_law_q", "_law_r", "_law_high"]
abbrev N_l_is_less : List Str := ["_law_p", "_law_q"]
abbrev N_l_lies_on : List Str := ["_law_p", "_law_q", "_law_r", "_law_low", "_law_high"]
abbrev N_odd : List Str := ["_law_spring_here", "_law_nil", "_law_one", "_law_two", "_law_some"]
abbrev N_bent : List Str := ["_law_spring_here", "_law_thing", "_law_at", "_law_branch"]
abbrev N_l_is_whole : List Str := ["_law_thing"]
abbrev N_is_lot : List Str := ["_law_thing", "_law_low", "_law_high"]
abbrev N_l_is_fraction : List Str := ["_law_thing", "_law_each"]
abbrev N_is_told : List Str := ["_law_thing", "_law_each"]
abbrev N_l_sign : List Str := ["_law_whole"]
end LB
namespace LB
open PySem PySem.Spec PyProof.Rows L2 DL
abbrev I (i : Int) : D := .d (.int i)
abbrev Bo (b : Bool) : D := .d (.bool b)
def fr (a b : Int) : PyData := .tuple [.int a, .int b]
def tri (x y w : Int) : PyData := .tuple [.int x, .int y, .int w]
structure Pt where
  (a b c d : Int)
  deriving DecidableEq
def Pt.py (p : Pt) : PyData := .tuple [fr p.a p.b, fr p.c p.d]
def B (n : Nat) (i : Int) : Prop := i.natAbs < 2 ^ n
def gc (a b : Int) : Int := ((Nat.gcd a.natAbs b.natAbs : Nat) : Int)
structure Pt.Ok (p : Pt) : Prop where
  hb : 0 < p.b
  hd : 0 < p.d
  g1 : gc p.a p.b = 1
  g2 : gc p.c p.d = 1
  ba : B 1600 p.a
  bb : B 1600 p.b
  bc : B 1600 p.c
  bd : B 1600 p.d
structure Tr where
  (x y w : Int)
  deriving DecidableEq
def Tr.py (t : Tr) : PyData := tri t.x t.y t.w
structure Tr.Ok (n : Nat) (t : Tr) : Prop where
  hw : 0 < t.w
  bx : B n t.x
  by_ : B n t.y
  bw : B n t.w
def det (p q r : Tr) : Int := p.x * (q.y * r.w - r.y * q.w) - p.y * (q.x * r.w - r.x * q.w) + p.w * (q.x * r.y - r.x * q.y)
def sgn (n : Int) : Int := if n = 0 then 0 else if 0 < n then 1 else -1
/-- the spring: what is left of a great number, the mixed one, how often it was asked -/
def SprL (xs : List D) (n : Nat) : Prop := ∃ x y z : Int, xs = [I x, I y, I z] ∧ 0 ≤ y ∧ y < 2147483629 ∧ 0 ≤ z ∧ z ≤ n
theorem SprL.mono {xs : List D} {n m : Nat} (h : SprL xs n) (hm : n ≤ m) : SprL xs m := by
  obtain ⟨x, y, z, e, h1, h2, h3, h4⟩ := h
  exact ⟨x, y, z, e, h1, h2, h3, by omega⟩
/-- what asks the spring at most c times -/
def spS (c : Nat) (post : D → Prop) (p : Addr) (st : Sto) (Q : Kd) : Prop := ∃ n xs, st p = some xs ∧ SprL xs n ∧ n + c < 2 ^ 40 ∧ ∀ d xs', post d → SprL xs' (n + c) → Q d (put st p xs')
def sp_spring : SpD := fun ds st Q => match ds with
  | [.scr ns, .d (.int t)] => ns.length ≤ 63 ∧ 0 ≤ t ∧ t < 100 ∧ ∀ p xs, st p = none → SprL xs 0 → Q (.own p) (put st p xs)
  | _ => False
def sp_draw : SpD := fun ds st Q => match ds with
  | [.own p, .d (.int m)] => 0 < m ∧ m < 2 ^ 40 ∧ spS 1 (fun d => ∃ i, d = I i ∧ 0 ≤ i ∧ i < m) p st Q
  | _ => False
def sp_one_of : SpD := fun ds st Q => match ds with
  | [.own p, .d (.list xs)] => 0 < xs.length ∧ xs.length < 1000 ∧ spS 1 (fun d => ∃ x, d = .d x ∧ x ∈ xs) p st Q
  | [.own p, .d (.tuple xs)] => 0 < xs.length ∧ xs.length < 1000 ∧ spS 1 (fun d => ∃ x, d = .d x ∧ x ∈ xs) p st Q
  | _ => False
def sp_odd : SpD := fun ds st Q => match ds with
  | [.own p] => spS 1 (fun d => ∃ x, d = .d x) p st Q
  | _ => False
/-- data that may be bent: no dicts, no great numbers, k deep -/
def Plain : Nat → PyData → Prop
  | _, .int i => B 1000 i
  | _, .str _ => True
  | k + 1, .tuple xs => xs.length ≤ 1000 ∧ SeqAt.shaped (.tuple xs) = true ∧ ∀ x ∈ xs, Plain k x
  | _, _ => False
def sp_bentK (k : Nat) : SpD := fun ds st Q => match ds with
  | [.own p, .d x] => Plain k x ∧ spS (2 * k + 2) (fun d => ∃ x, d = .d x) p st Q
  | _ => False
def sp_bent : SpD := sp_bentK 2
def sp_divisor : SpD := fun ds st Q => match ds with
  | [.d (.int a), .d (.int b)] => Q (I (gc a b)) st
  | _ => False
def partD (t b : Int) : PyData := fr (t / gc t b) (b / gc t b)
def sp_part : SpD := fun ds st Q => match ds with
  | [.d (.int t), .d (.int b)] => 0 < b ∧ B 8000 t ∧ B 8000 b ∧ Q (.d (partD t b)) st
  | _ => False
def placeT (x y w : Int) : Tr := ⟨x / gc (gc x y) w, y / gc (gc x y) w, w / gc (gc x y) w⟩
def placeS (x y w : Int) : Tr := if 0 < w then placeT x y w else placeT (-x) (-y) (-w)
def sp_place : SpD := fun ds st Q => match ds with
  | [.d (.int x), .d (.int y), .d (.int w)] => w ≠ 0 ∧ B 8000 x ∧ B 8000 y ∧ B 8000 w ∧ Q (.d (placeS x y w).py) st
  | _ => False
def toldP (t : Tr) : Pt := ⟨t.x / gc t.x t.w, t.w / gc t.x t.w, t.y / gc t.y t.w, t.w / gc t.y t.w⟩
def ownT (p : Pt) : Tr := placeT (p.a * p.d) (p.c * p.b) (p.b * p.d)
/-! the program's own looks -/
def isW : PyData → Bool
  | .int _ => true
  | _ => false
def isRow (lo hi : Int) : PyData → Bool
  | .tuple xs => decide (lo ≤ xs.length) && decide ((xs.length : Int) ≤ hi)
  | _ => false
def isFr : PyData → Bool
  | .tuple [.int a, .int b] => decide (0 < b) && decide (gc a b = 1)
  | _ => false
def isPl : PyData → Bool
  | .tuple [p, q] => isFr p && isFr q
  | _ => false
def sp_is_whole : SpD := fun ds st Q => match ds with
  | [.d x] => Q (Bo (isW x)) st
  | _ => False
def sp_l_is_whole : SpD := sp_is_whole
def sp_is_row : SpD := fun ds st Q => match ds with
  | [.d x, .d (.int lo), .d (.int hi)] => Q (Bo (isRow lo hi x)) st
  | _ => False
def sp_is_lot : SpD := sp_is_row
def sp_is_fraction : SpD := fun ds st Q => match ds with
  | [.d x] => Q (Bo (isFr x)) st
  | _ => False
def sp_l_is_fraction : SpD := sp_is_fraction
def sp_is_place : SpD := fun ds st Q => match ds with
  | [.d x] => Q (Bo (isPl x)) st
  | _ => False
def sp_is_point : SpD := sp_is_place
def sp_is_told : SpD := sp_is_place
end LB
namespace LB
open PySem PySem.Spec PyProof.Rows L2 DL
def sp_told : SpD := fun ds st Q => match ds with
  | [.d (.tuple [.int x, .int y, .int w])] => Tr.Ok 1600 ⟨x, y, w⟩ ∧ Q (.d (toldP ⟨x, y, w⟩).py) st
  | _ => False
def sp_own : SpD := fun ds st Q => match ds with
  | [.d (.tuple [.tuple [.int a, .int b], .tuple [.int c, .int d]])] => 0 < b ∧ 0 < d ∧ B 1600 a ∧ B 1600 b ∧ B 1600 c ∧ B 1600 d ∧ Q (.d (ownT ⟨a, b, c, d⟩).py) st
  | _ => False
def sp_side : SpD := fun ds st Q => match ds with
  | [.d (.tuple [.int x, .int y, .int w]), .d (.tuple [.int x', .int y', .int w']), .d (.tuple [.int x'', .int y'', .int w''])] => (B 4000 x ∧ B 4000 y ∧ B 4000 w) ∧ (B 4000 x' ∧ B 4000 y' ∧ B 4000 w') ∧ (B 4000 x'' ∧ B 4000 y'' ∧ B 4000 w'') ∧ Q (I (det ⟨x, y, w⟩ ⟨x', y', w'⟩ ⟨x'', y'', w''⟩)) st
  | _ => False
def lessT (p q : Tr) : Bool := if p.x * q.w ≠ q.x * p.w then decide (p.x * q.w < q.x * p.w) else decide (p.y * q.w < q.y * p.w)
def sp_l_is_less : SpD := fun ds st Q => match ds with
  | [.d (.tuple [.int x, .int y, .int w]), .d (.tuple [.int x', .int y', .int w'])] => (B 4000 x ∧ B 4000 y ∧ B 4000 w) ∧ (B 4000 x' ∧ B 4000 y' ∧ B 4000 w') ∧ Q (Bo (lessT ⟨x, y, w⟩ ⟨x', y', w'⟩)) st
  | _ => False
def onT (p q r : Tr) : Bool := if det p q r ≠ 0 then false else if lessT p q then !lessT r p && !lessT q r else !lessT r q && !lessT p r
def sp_l_lies_on : SpD := fun ds st Q => match ds with
  | [.d (.tuple [.int x, .int y, .int w]), .d (.tuple [.int x', .int y', .int w']), .d (.tuple [.int x'', .int y'', .int w''])] => (B 4000 x ∧ B 4000 y ∧ B 4000 w) ∧ (B 4000 x' ∧ B 4000 y' ∧ B 4000 w') ∧ (B 4000 x'' ∧ B 4000 y'' ∧ B 4000 w'') ∧ Q (Bo (onT ⟨x, y, w⟩ ⟨x', y', w'⟩ ⟨x'', y'', w''⟩)) st
  | _ => False
def sp_l_sign : SpD := fun ds st Q => match ds with
  | [.d (.int n)] => Q (I (sgn n)) st
  | _ => False
def sp_sign : SpD := sp_l_sign
/-! the program's geometry -/
def scT (p : Pt) : Tr := ⟨p.a * (((Nat.lcm p.b.natAbs p.d.natAbs : Nat) : Int) / p.b), p.c * (((Nat.lcm p.b.natAbs p.d.natAbs : Nat) : Int) / p.d), ((Nat.lcm p.b.natAbs p.d.natAbs : Nat) : Int)⟩
def sp_scaled : SpD := fun ds st Q => match ds with
  | [.d (.tuple [.tuple [.int a, .int b], .tuple [.int c, .int d]])] => 0 < b ∧ 0 < d ∧ B 1600 a ∧ B 1600 b ∧ B 1600 c ∧ B 1600 d ∧ Q (.d (scT ⟨a, b, c, d⟩).py) st
  | _ => False
def crT (p q : Tr) : Tr := ⟨p.y * q.w - p.w * q.y, p.w * q.x - p.x * q.w, p.x * q.y - p.y * q.x⟩
def sp_crossed : SpD := fun ds st Q => match ds with
  | [.d (.tuple [.int x, .int y, .int w]), .d (.tuple [.int x', .int y', .int w'])] => (B 8000 x ∧ B 8000 y ∧ B 8000 w) ∧ (B 8000 x' ∧ B 8000 y' ∧ B 8000 w') ∧ Q (.d (crT ⟨x, y, w⟩ ⟨x', y', w'⟩).py) st
  | _ => False
def alT (l t : Tr) : Int := l.x * t.x + l.y * t.y + l.w * t.w
def sp_along : SpD := fun ds st Q => match ds with
  | [.d (.tuple [.int x, .int y, .int w]), .d (.tuple [.int x', .int y', .int w'])] => (B 20000 x ∧ B 20000 y ∧ B 20000 w) ∧ (B 20000 x' ∧ B 20000 y' ∧ B 20000 w') ∧ Q (I (alT ⟨x, y, w⟩ ⟨x', y', w'⟩)) st
  | _ => False
def sideP (p q r : Pt) : Int := sgn (alT (crT (scT p) (scT q)) (scT r))
/-- three points as arguments -/
def sp_side_of : SpD := fun ds st Q => ∃ p q r : Pt, ds = [.d p.py, .d q.py, .d r.py] ∧ p.Ok ∧ q.Ok ∧ r.Ok ∧ Q (I (sideP p q r)) st
def sp_turn_of : SpD := sp_side_of
def sp_is_less : SpD := fun ds st Q => match ds with
  | [.d (.tuple [.int a, .int b]), .d (.tuple [.int c, .int d])] => (B 1600 a ∧ B 1600 b ∧ B 1600 c ∧ B 1600 d) ∧ Q (Bo (decide (a * d < c * b))) st
  | _ => False
def ahead (p q : Pt) : Bool := if p.a = q.a ∧ p.b = q.b then decide (p.c * q.d < q.c * p.d) else decide (p.a * q.b < q.a * p.b)
def sp_is_ahead : SpD := fun ds st Q => ∃ p q : Pt, ds = [.d p.py, .d q.py] ∧ p.Ok ∧ q.Ok ∧ Q (Bo (ahead p q)) st
def sp_in_order : SpD := fun ds st Q => ∃ p q : Pt, ds = [.d (.tuple [p.py, q.py])] ∧ p.Ok ∧ q.Ok ∧ Q (.d (if ahead q p then .tuple [q.py, p.py] else .tuple [p.py, q.py])) st
def onP (p q r : Pt) : Bool := if sideP p q r ≠ 0 then false else if ahead q p then !ahead r q && !ahead p r else !ahead r p && !ahead q r
def sp_lies_on : SpD := fun ds st Q => ∃ p q r : Pt, ds = [.d (.tuple [p.py, q.py]), .d r.py] ∧ p.Ok ∧ q.Ok ∧ r.Ok ∧ Q (Bo (onP p q r)) st
def sp_is_on : SpD := fun ds st Q => ∃ p q r : Pt, ds = [.d (.tuple [p.py, q.py]), .d r.py] ∧ p.Ok ∧ q.Ok ∧ r.Ok ∧ p ≠ q ∧ Q (Bo (onP p q r)) st
def sp_is_stretch : SpD := fun ds st Q => ∃ p q : Pt, ds = [.d (.tuple [p.py, q.py])] ∧ p.Ok ∧ q.Ok ∧ p ≠ q ∧ Q (Bo true) st
def sp_check_point : SpD := fun ds st Q => ∃ p : Pt, ds = [.d p.py] ∧ p.Ok ∧ Q (.d .none) st
def sp_check_segment : SpD := fun ds st Q => ∃ p q : Pt, ds = [.d (.tuple [p.py, q.py])] ∧ p.Ok ∧ q.Ok ∧ p ≠ q ∧ Q (.d .none) st
end LB
namespace LB
open PySem PySem.Spec PyProof.Rows L2 DL
def b_is_whole : TSd := (dRet (dAnd (dIs "int" (dVar 0)) (dNot (dIs "bool" (dVar 0)))))
def b_is_row : TSd := (dRet (dAnd (dIs "tuple" (dVar 0)) (dChain rLeD rLeD (dVar 1) (dCall cLen (dCons (dVar 0) dNil)) (dVar 2))))
def b_is_fraction_1 : TSd := (dIfS (dOrT (dNotT (dTst (dFn0 sp_is_row (dCons (dVar 0) (dCons (dC (.int 2)) (dCons (dC (.int 2)) dNil)))))) (dOrT (dNotT (dTst (dFn0 sp_is_whole (dCons (dBin rIxD (dVar 0) (dC (.int 0))) dNil)))) (dNotT (dTst (dFn0 sp_is_whole (dCons (dBin rIxD (dVar 0) (dC (.int 1))) dNil)))))) (dRet (dC (.bool false))) dNext)
def b_is_fraction_2 : TSd := (dRet (dAnd (dBin rGtD (dBin rIxD (dVar 0) (dC (.int 1))) (dC (.int 0))) (dBin rEqV (dCall cGcd (dCons (dBin rIxD (dVar 0) (dC (.int 0))) (dCons (dBin rIxD (dVar 0) (dC (.int 1))) dNil))) (dC (.int 1)))))
def b_is_fraction : TSd := (dSeq b_is_fraction_1 b_is_fraction_2)
def b_is_place : TSd := (dRet (dAnd (dFn0 sp_is_row (dCons (dVar 0) (dCons (dC (.int 2)) (dCons (dC (.int 2)) dNil)))) (dAnd (dFn0 sp_is_fraction (dCons (dBin rIxD (dVar 0) (dC (.int 0))) dNil)) (dFn0 sp_is_fraction (dCons (dBin rIxD (dVar 0) (dC (.int 1))) dNil)))))
def b_is_stretch : TSd := (dRet (dAnd (dFn0 sp_is_row (dCons (dVar 0) (dCons (dC (.int 2)) (dCons (dC (.int 2)) dNil)))) (dAnd (dFn0 sp_is_place (dCons (dBin rIxD (dVar 0) (dC (.int 0))) dNil)) (dAnd (dFn0 sp_is_place (dCons (dBin rIxD (dVar 0) (dC (.int 1))) dNil)) (dBin rNeV (dBin rIxD (dVar 0) (dC (.int 0))) (dBin rIxD (dVar 0) (dC (.int 1))))))))
def b_check_point : TSd := (dIfS (dNotT (dTst (dFn0 sp_is_place (dCons (dVar 0) dNil)))) dNever dNext)
def b_check_segment : TSd := (dIfS (dNotT (dTst (dFn0 sp_is_stretch (dCons (dVar 0) dNil)))) dNever dNext)
def b_sign_1 : TSd := (dIfS (dTst (dBin rEqV (dVar 0) (dC (.int 0)))) (dRet (dC (.int 0))) dNext)
def b_sign_2 : TSd := (dRet (dIf (dTst (dBin rGtD (dVar 0) (dC (.int 0)))) (dC (.int 1)) (dNeg (dC (.int 1)))))
def b_sign : TSd := (dSeq b_sign_1 b_sign_2)
def b_is_less : TSd := (dRet (dBin rLtD (dBin rMulD (dBin rIxD (dVar 0) (dC (.int 0))) (dBin rIxD (dVar 1) (dC (.int 1)))) (dBin rMulD (dBin rIxD (dVar 1) (dC (.int 0))) (dBin rIxD (dVar 0) (dC (.int 1))))))
def b_is_ahead_1 : TSd := (dIfS (dTst (dBin rNeV (dBin rIxD (dVar 0) (dC (.int 0))) (dBin rIxD (dVar 1) (dC (.int 0))))) (dRet (dFn0 sp_is_less (dCons (dBin rIxD (dVar 0) (dC (.int 0))) (dCons (dBin rIxD (dVar 1) (dC (.int 0))) dNil)))) dNext)
def b_is_ahead_2 : TSd := (dRet (dFn0 sp_is_less (dCons (dBin rIxD (dVar 0) (dC (.int 1))) (dCons (dBin rIxD (dVar 1) (dC (.int 1))) dNil))))
def b_is_ahead : TSd := (dSeq b_is_ahead_1 b_is_ahead_2)
def b_scaled_1 : TSd := (dAsg (dVar 0) (hTup 2 (hCons (hTup 2 (hCons (hName 1) (hCons (hName 2) hNil))) (hCons (hTup 2 (hCons (hName 3) (hCons (hName 4) hNil))) hNil))))
def b_scaled_2 : TSd := (dAsg (dCall cLcm (dCons (dVar 2) (dCons (dVar 4) dNil))) (hName 5))
def b_scaled_3 : TSd := (dRet (dTup (dCons (dBin rMulD (dVar 1) (dBin rDivD (dVar 5) (dVar 2))) (dCons (dBin rMulD (dVar 3) (dBin rDivD (dVar 5) (dVar 4))) (dCons (dVar 5) dNil)))))
def b_scaled : TSd := (dSeq b_scaled_1 (dSeq b_scaled_2 b_scaled_3))
def b_crossed : TSd := (dRet (dTup (dCons (dBin rSubD (dBin rMulD (dBin rIxD (dVar 0) (dC (.int 1))) (dBin rIxD (dVar 1) (dC (.int 2)))) (dBin rMulD (dBin rIxD (dVar 0) (dC (.int 2))) (dBin rIxD (dVar 1) (dC (.int 1))))) (dCons (dBin rSubD (dBin rMulD (dBin rIxD (dVar 0) (dC (.int 2))) (dBin rIxD (dVar 1) (dC (.int 0)))) (dBin rMulD (dBin rIxD (dVar 0) (dC (.int 0))) (dBin rIxD (dVar 1) (dC (.int 2))))) (dCons (dBin rSubD (dBin rMulD (dBin rIxD (dVar 0) (dC (.int 0))) (dBin rIxD (dVar 1) (dC (.int 1)))) (dBin rMulD (dBin rIxD (dVar 0) (dC (.int 1))) (dBin rIxD (dVar 1) (dC (.int 0))))) dNil)))))
def b_along : TSd := (dRet (dBin rAddD (dBin rAddD (dBin rMulD (dBin rIxD (dVar 0) (dC (.int 0))) (dBin rIxD (dVar 1) (dC (.int 0)))) (dBin rMulD (dBin rIxD (dVar 0) (dC (.int 1))) (dBin rIxD (dVar 1) (dC (.int 1))))) (dBin rMulD (dBin rIxD (dVar 0) (dC (.int 2))) (dBin rIxD (dVar 1) (dC (.int 2))))))
def b_side_of : TSd := (dRet (dFn0 sp_sign (dCons (dFn0 sp_along (dCons (dFn0 sp_crossed (dCons (dFn0 sp_scaled (dCons (dVar 0) dNil)) (dCons (dFn0 sp_scaled (dCons (dVar 1) dNil)) dNil))) (dCons (dFn0 sp_scaled (dCons (dVar 2) dNil)) dNil))) dNil)))
def b_in_order_1 : TSd := (dAsg (dVar 0) (hTup 2 (hCons (hName 1) (hCons (hName 2) hNil))))
def b_in_order_2 : TSd := (dRet (dIf (dTst (dFn0 sp_is_ahead (dCons (dVar 2) (dCons (dVar 1) dNil)))) (dTup (dCons (dVar 2) (dCons (dVar 1) dNil))) (dTup (dCons (dVar 1) (dCons (dVar 2) dNil)))))
def b_in_order : TSd := (dSeq b_in_order_1 b_in_order_2)
def b_lies_on_1 : TSd := (dIfS (dTst (dBin rNeV (dFn0 sp_side_of (dCons (dBin rIxD (dVar 0) (dC (.int 0))) (dCons (dBin rIxD (dVar 0) (dC (.int 1))) (dCons (dVar 1) dNil)))) (dC (.int 0)))) (dRet (dC (.bool false))) dNext)
def b_lies_on_2 : TSd := (dAsg (dFn0 sp_in_order (dCons (dVar 0) dNil)) (hTup 2 (hCons (hName 2) (hCons (hName 3) hNil))))
def b_lies_on_3 : TSd := (dRet (dAnd (dNot (dFn0 sp_is_ahead (dCons (dVar 1) (dCons (dVar 2) dNil)))) (dNot (dFn0 sp_is_ahead (dCons (dVar 3) (dCons (dVar 1) dNil))))))
def b_lies_on : TSd := (dSeq b_lies_on_1 (dSeq b_lies_on_2 b_lies_on_3))
def b_is_point : TSd := (dRet (dFn0 sp_is_place (dCons (dVar 0) dNil)))
def b_turn_of_1 : TSd := (dDrop (dFn0 sp_check_point (dCons (dVar 0) dNil)))
def b_turn_of_2 : TSd := (dDrop (dFn0 sp_check_point (dCons (dVar 1) dNil)))
def b_turn_of_3 : TSd := (dDrop (dFn0 sp_check_point (dCons (dVar 2) dNil)))
def b_turn_of_4 : TSd := (dRet (dFn0 sp_side_of (dCons (dVar 0) (dCons (dVar 1) (dCons (dVar 2) dNil)))))
def b_turn_of : TSd := (dSeq b_turn_of_1 (dSeq b_turn_of_2 (dSeq b_turn_of_3 b_turn_of_4)))
def b_is_on_1 : TSd := (dDrop (dFn0 sp_check_segment (dCons (dVar 0) dNil)))
def b_is_on_2 : TSd := (dDrop (dFn0 sp_check_point (dCons (dVar 1) dNil)))
def b_is_on_3 : TSd := (dRet (dFn0 sp_lies_on (dCons (dVar 0) (dCons (dVar 1) dNil))))
def b_is_on : TSd := (dSeq b_is_on_1 (dSeq b_is_on_2 b_is_on_3))
def b_spring_1 (c : Int) : TSd := (dAsg (dBin rAddD (dC (.int c)) (dBin rMulD (dC (.int 9241)) (dVar 1))) (hName 2))
def b_spring_2 : TSd := (dFor (dIter (dSl (dVar 0) dNoP (dPart (dC (.int 9))))) (hName 3) (dAsg (dBin rModD (dCall cInt (dCons (dBin rAddD (dBin rAddD (dBin rMulD (dVar 2) (dC (.int 58027))) (dBin rModD (dCall cInt (dCons (dVar 3) dNil)) (dC (.int 2147483587)))) (dC (.int 19))) dNil)) (dC (.int 2147483629))) (hName 2)))
def b_spring_3 : TSd := (dAsg (dIf (dTst (dBin rLtD (dVar 1) (dCall cLen (dCons (dVar 0) dNil)))) (dCall cInt (dCons (dBin rIxD (dVar 0) (dVar 1)) dNil)) (dC (.int 0))) (hName 4))
def b_spring_4 : TSd := (dAsg (dBin rModD (dCall cInt (dCons (dBin rAddD (dBin rAddD (dBin rMulD (dVar 2) (dC (.int 61))) (dBin rMulD (dBin rModD (dCall cInt (dCons (dVar 4) dNil)) (dC (.int 2147483587))) (dC (.int 30011)))) (dC (.int 7))) dNil)) (dC (.int 2147483629))) (hName 2))
def b_spring_5 : TSd := (dRet (dLst (dCons (dIf (dOrT (dTst (dBin rLtD (dVar 4) (dC (.int 0)))) (dTst (dBin rGeD (dVar 4) (dBin rPowD (dC (.int 10)) (dC (.int 15)))))) (dCall cAbs (dCons (dVar 4) dNil)) (dC (.int 0))) (dCons (dVar 2) (dCons (dC (.int 0)) dNil)))))
def b_spring (c : Int) : TSd := (dSeq (b_spring_1 c) (dSeq b_spring_2 (dSeq b_spring_3 (dSeq b_spring_4 b_spring_5))))
def b_draw_1 : TSd := (dIfS (dTst (dBin rGtD (dBin rIxD (dVar 0) (dC (.int 0))) (dC (.int 0)))) (dSeq (dAsg (dCall cDivmod (dCons (dBin rIxD (dVar 0) (dC (.int 0))) (dCons (dVar 1) dNil))) (hTup 2 (hCons (hSub (dVar 0) (dC (.int 0))) (hCons (hName 2) hNil)))) (dRet (dVar 2))) dNext)
def b_draw_2 : TSd := (dAsg (dBin rAddD (dBin rIxD (dVar 0) (dC (.int 2))) (dC (.int 1))) (hSub (dVar 0) (dC (.int 2))))
def b_draw_3 : TSd := (dAsg (dBin rModD (dCall cInt (dCons (dBin rAddD (dBin rIxD (dVar 0) (dC (.int 1))) (dBin rMulD (dC (.int 70003)) (dBin rIxD (dVar 0) (dC (.int 2))))) dNil)) (dC (.int 2147483629))) (hName 3))
def b_draw_4 : TSd := (dAsg (dBin rModD (dCall cInt (dCons (dBin rAddD (dBin rMulD (dVar 3) (dBin rAddD (dBin rModD (dCall cInt (dCons (dVar 3) dNil)) (dC (.int 6007))) (dC (.int 50021)))) (dBin rMulD (dC (.int 29)) (dBin rIxD (dVar 0) (dC (.int 2))))) dNil)) (dC (.int 2147483629))) (hSub (dVar 0) (dC (.int 1))))
def b_draw_5 : TSd := (dRet (dBin rModD (dCall cInt (dCons (dBin rDivD (dBin rIxD (dVar 0) (dC (.int 1))) (dC (.int 769))) dNil)) (dVar 1)))
def b_draw : TSd := (dSeq b_draw_1 (dSeq b_draw_2 (dSeq b_draw_3 (dSeq b_draw_4 b_draw_5))))
def b_one_of : TSd := (dRet (dBin rIxD (dVar 1) (dFn0 sp_draw (dCons (dVar 0) (dCons (dCall cLen (dCons (dVar 1) dNil)) dNil)))))
def b_divisor_1 : TSd := (dPar 2 3 (dCons (dCall cAbs (dCons (dVar 0) dNil)) (dCons (dCall cAbs (dCons (dVar 1) dNil)) dNil)))
def b_divisor_2 : TSd := (dWhile (dTst (dBin rNeV (dVar 3) (dC (.int 0)))) (dPar 2 3 (dCons (dVar 3) (dCons (dBin rModD (dCall cInt (dCons (dVar 2) dNil)) (dVar 3)) dNil))))
def b_divisor_3 : TSd := (dRet (dVar 2))
def b_divisor : TSd := (dSeq b_divisor_1 (dSeq b_divisor_2 b_divisor_3))
def b_part_1 : TSd := (dAsg (dIf (dTst (dBin rGtD (dVar 1) (dC (.int 0)))) (dFn0 sp_divisor (dCons (dVar 0) (dCons (dVar 1) dNil))) (dBin rSubD (dC (.int 0)) (dFn0 sp_divisor (dCons (dVar 0) (dCons (dVar 1) dNil))))) (hName 2))
def b_part_2 : TSd := (dRet (dTup (dCons (dBin rDivD (dVar 0) (dVar 2)) (dCons (dBin rDivD (dVar 1) (dVar 2)) dNil))))
def b_part : TSd := (dSeq b_part_1 b_part_2)
def b_place_1 : TSd := (dAsg (dIf (dTst (dBin rGtD (dVar 2) (dC (.int 0)))) (dFn0 sp_divisor (dCons (dFn0 sp_divisor (dCons (dVar 0) (dCons (dVar 1) dNil))) (dCons (dVar 2) dNil))) (dBin rSubD (dC (.int 0)) (dFn0 sp_divisor (dCons (dFn0 sp_divisor (dCons (dVar 0) (dCons (dVar 1) dNil))) (dCons (dVar 2) dNil))))) (hName 3))
def b_place_2 : TSd := (dRet (dTup (dCons (dBin rDivF (dVar 0) (dVar 3)) (dCons (dBin rDivF (dVar 1) (dVar 3)) (dCons (dBin rDivF (dVar 2) (dVar 3)) dNil)))))
def b_place : TSd := (dSeq b_place_1 b_place_2)
def b_told : TSd := (dRet (dTup (dCons (dFn0 sp_part (dCons (dBin rIxD (dVar 0) (dC (.int 0))) (dCons (dBin rIxD (dVar 0) (dC (.int 2))) dNil))) (dCons (dFn0 sp_part (dCons (dBin rIxD (dVar 0) (dC (.int 1))) (dCons (dBin rIxD (dVar 0) (dC (.int 2))) dNil))) dNil))))
def b_own_1 : TSd := (dAsg (dVar 0) (hTup 2 (hCons (hTup 2 (hCons (hName 1) (hCons (hName 2) hNil))) (hCons (hTup 2 (hCons (hName 3) (hCons (hName 4) hNil))) hNil))))
def b_own_2 : TSd := (dRet (dFn0 sp_place (dCons (dBin rMulD (dVar 1) (dVar 4)) (dCons (dBin rMulD (dVar 3) (dVar 2)) (dCons (dBin rMulD (dVar 2) (dVar 4)) dNil)))))
def b_own : TSd := (dSeq b_own_1 b_own_2)
def b_side_1 : TSd := (dAsg (dBin rSubD (dBin rMulD (dBin rIxD (dVar 0) (dC (.int 0))) (dBin rSubD (dBin rMulD (dBin rIxD (dVar 1) (dC (.int 1))) (dBin rIxD (dVar 2) (dC (.int 2)))) (dBin rMulD (dBin rIxD (dVar 2) (dC (.int 1))) (dBin rIxD (dVar 1) (dC (.int 2)))))) (dBin rMulD (dBin rIxD (dVar 0) (dC (.int 1))) (dBin rSubD (dBin rMulD (dBin rIxD (dVar 1) (dC (.int 0))) (dBin rIxD (dVar 2) (dC (.int 2)))) (dBin rMulD (dBin rIxD (dVar 2) (dC (.int 0))) (dBin rIxD (dVar 1) (dC (.int 2))))))) (hName 3))
def b_side_2 : TSd := (dRet (dBin rAddD (dVar 3) (dBin rMulD (dBin rIxD (dVar 0) (dC (.int 2))) (dBin rSubD (dBin rMulD (dBin rIxD (dVar 1) (dC (.int 0))) (dBin rIxD (dVar 2) (dC (.int 1)))) (dBin rMulD (dBin rIxD (dVar 2) (dC (.int 0))) (dBin rIxD (dVar 1) (dC (.int 1))))))))
def b_side : TSd := (dSeq b_side_1 b_side_2)
def b_l_is_less_1 : TSd := (dIfS (dTst (dBin rNeV (dBin rMulD (dBin rIxD (dVar 0) (dC (.int 0))) (dBin rIxD (dVar 1) (dC (.int 2)))) (dBin rMulD (dBin rIxD (dVar 1) (dC (.int 0))) (dBin rIxD (dVar 0) (dC (.int 2)))))) (dRet (dBin rLtD (dBin rMulD (dBin rIxD (dVar 0) (dC (.int 0))) (dBin rIxD (dVar 1) (dC (.int 2)))) (dBin rMulD (dBin rIxD (dVar 1) (dC (.int 0))) (dBin rIxD (dVar 0) (dC (.int 2)))))) dNext)
def b_l_is_less_2 : TSd := (dRet (dBin rLtD (dBin rMulD (dBin rIxD (dVar 0) (dC (.int 1))) (dBin rIxD (dVar 1) (dC (.int 2)))) (dBin rMulD (dBin rIxD (dVar 1) (dC (.int 1))) (dBin rIxD (dVar 0) (dC (.int 2))))))
def b_l_is_less : TSd := (dSeq b_l_is_less_1 b_l_is_less_2)
def b_l_lies_on_1 : TSd := (dIfS (dTst (dBin rNeV (dFn0 sp_side (dCons (dVar 0) (dCons (dVar 1) (dCons (dVar 2) dNil)))) (dC (.int 0)))) (dRet (dC (.bool false))) dNext)
def b_l_lies_on_2 : TSd := (dAsg (dIf (dTst (dFn0 sp_l_is_less (dCons (dVar 0) (dCons (dVar 1) dNil)))) (dTup (dCons (dVar 0) (dCons (dVar 1) dNil))) (dTup (dCons (dVar 1) (dCons (dVar 0) dNil)))) (hTup 2 (hCons (hName 3) (hCons (hName 4) hNil))))
def b_l_lies_on_3 : TSd := (dRet (dAnd (dNot (dFn0 sp_l_is_less (dCons (dVar 2) (dCons (dVar 3) dNil)))) (dNot (dFn0 sp_l_is_less (dCons (dVar 4) (dCons (dVar 2) dNil))))))
def b_l_lies_on : TSd := (dSeq b_l_lies_on_1 (dSeq b_l_lies_on_2 b_l_lies_on_3))
def b_odd_1 : TSd := (dAsg (dTup (dCons (dTup (dCons (dTup (dCons (dC (.int 0)) (dCons (dC (.int 1)) dNil))) (dCons (dTup (dCons (dC (.int 0)) (dCons (dC (.int 1)) dNil))) dNil))) (dCons (dTup (dCons (dTup (dCons (dC (.int 1)) (dCons (dC (.int 1)) dNil))) (dCons (dTup (dCons (dC (.int 0)) (dCons (dC (.int 1)) dNil))) dNil))) (dCons (dTup (dCons (dTup (dCons (dNeg (dC (.int 3))) (dCons (dC (.int 2)) dNil))) (dCons (dTup (dCons (dC (.int 5)) (dCons (dC (.int 7)) dNil))) dNil))) dNil)))) (hTup 3 (hCons (hName 1) (hCons (hName 2) (hCons (hName 3) hNil)))))
def b_odd_2 : TSd := (dAsg (dLstV (dCons (dC .none) (dCons (dC (.bool true)) (dCons (dC (.bool false)) (dCons (dC (.int 0)) (dCons (dC (.int 1)) (dCons (dNeg (dC (.int 1))) (dCons (dBin rPowD (dC (.int 10)) (dC (.int 25))) (dCons (dC (.str "")) (dCons (dC (.str "A")) (dCons (dC (.str "E")) (dCons (dC (.str "a")) (dCons (dC (.str "spot")) (dCons (dC (.str "vertex")) (dCons (dC (.str "face")) (dCons (dTup dNil) (dCons (dTup (dCons (dC (.int 0)) dNil)) (dCons (dTup (dCons (dC (.int 0)) (dCons (dC (.int 1)) dNil))) (dCons (dTup (dCons (dC (.int 1)) (dCons (dC (.int 1)) dNil))) (dCons (dTup (dCons (dC (.int 2)) (dCons (dC (.int 2)) dNil))) (dCons (dTup (dCons (dC (.int 0)) (dCons (dC (.int 3)) dNil))) (dCons (dTup (dCons (dC (.int 0)) (dCons (dC (.int 0)) dNil))) (dCons (dTup (dCons (dC (.int 1)) (dCons (dC (.int 0)) dNil))) (dCons (dTup (dCons (dC (.int 3)) (dCons (dNeg (dC (.int 2))) dNil))) (dCons (dTup (dCons (dC (.bool true)) (dCons (dC (.int 1)) dNil))) (dCons (dTup (dCons (dC (.int 0)) (dCons (dC (.bool true)) dNil))) (dCons (dTup (dCons (dC (.str "0")) (dCons (dC (.int 1)) dNil))) (dCons (dTup (dCons (dC .none) (dCons (dC (.int 1)) dNil))) (dCons (dVar 1) (dCons (dVar 2) (dCons (dVar 3) (dCons (dTup (dCons (dVar 1) (dCons (dVar 2) dNil))) (dCons (dTup (dCons (dVar 3) (dCons (dVar 1) dNil))) (dCons (dTup (dCons (dVar 1) (dCons (dVar 1) dNil))) (dCons (dTup (dCons (dVar 1) (dCons (dVar 2) (dCons (dVar 3) dNil)))) (dCons (dTup (dCons (dVar 2) (dCons (dVar 3) (dCons (dVar 2) dNil)))) (dCons (dTup (dCons (dTup (dCons (dC (.int 0)) (dCons (dC (.int 1)) dNil))) dNil)) (dCons (dTup (dCons (dTup (dCons (dC (.int 0)) (dCons (dC (.int 1)) dNil))) (dCons (dTup (dCons (dC (.int 0)) (dCons (dC (.int 2)) dNil))) dNil))) (dCons (dTup (dCons (dTup (dCons (dC (.int 0)) (dCons (dC (.int 1)) dNil))) (dCons (dTup (dCons (dC (.int 1)) (dCons (dC (.int 1)) dNil))) (dCons (dTup (dCons (dC (.int 0)) (dCons (dC (.int 1)) dNil))) dNil)))) (dCons (dTup (dCons (dLstV (dCons (dC (.int 0)) (dCons (dC (.int 1)) dNil))) (dCons (dTup (dCons (dC (.int 0)) (dCons (dC (.int 1)) dNil))) dNil))) (dCons (dLstV dNil) (dCons (dLstV (dCons (dC (.int 0)) (dCons (dC (.int 1)) dNil))) (dCons (dLstV (dCons (dTup (dCons (dC (.int 0)) (dCons (dC (.int 1)) dNil))) (dCons (dTup (dCons (dC (.int 0)) (dCons (dC (.int 1)) dNil))) dNil))) (dCons (dDict []) (dCons (dDict [(.str "A", .int 1)]) (dCons (dTup (dCons (dC (.str "vertex")) (dCons (dC (.int 0)) dNil))) (dCons (dTup (dCons (dC (.str "edge")) (dCons (dC (.int 0)) dNil))) (dCons (dTup (dCons (dC (.str "face")) (dCons (dC (.int 0)) dNil))) (dCons (dTup (dCons (dC (.str "face")) (dCons (dC (.int 1)) dNil))) (dCons (dTup (dCons (dC (.str "face")) (dCons (dC (.bool true)) dNil))) (dCons (dTup (dCons (dC (.str "vertex")) (dCons (dNeg (dC (.int 1))) dNil))) (dCons (dTup (dCons (dC (.str "cell")) (dCons (dC (.int 0)) dNil))) (dCons (dLstV (dCons (dC (.str "face")) (dCons (dC (.int 0)) dNil))) (dCons (dTup (dCons (dC (.str "spot")) (dCons (dVar 1) dNil))) (dCons (dTup (dCons (dC (.str "spot")) (dCons (dTup (dCons (dVar 1) dNil)) dNil))) (dCons (dTup (dCons (dC (.str "spot")) (dCons (dVar 1) (dCons (dVar 2) dNil)))) (dCons (dTup (dCons (dC (.str "path")) (dCons (dTup (dCons (dVar 1) (dCons (dVar 2) dNil))) dNil))) (dCons (dTup (dCons (dC (.str "path")) (dCons (dTup (dCons (dVar 1) (dCons (dVar 1) dNil))) dNil))) (dCons (dTup (dCons (dC (.str "path")) (dCons (dTup (dCons (dVar 1) dNil)) dNil))) (dCons (dTup (dCons (dC (.str "path")) (dCons (dTup dNil) dNil))) (dCons (dTup (dCons (dC (.str "area")) (dCons (dTup (dCons (dVar 1) (dCons (dVar 2) (dCons (dVar 3) dNil)))) dNil))) (dCons (dTup (dCons (dC (.str "area")) (dCons (dTup (dCons (dVar 1) (dCons (dVar 2) (dCons (dVar 1) dNil)))) dNil))) (dCons (dTup (dCons (dC (.str "area")) (dCons (dTup (dCons (dVar 1) (dCons (dVar 2) dNil))) dNil))) (dCons (dTup (dCons (dC (.str "area")) (dCons (dLstV (dCons (dVar 1) (dCons (dVar 2) (dCons (dVar 3) dNil)))) dNil))) (dCons (dTup (dCons (dC (.str "rim")) (dCons (dTup (dCons (dC (.str "spot")) (dCons (dVar 1) dNil))) dNil))) (dCons (dTup (dCons (dC (.str "rim")) dNil)) (dCons (dTup (dCons (dC (.str "both")) (dCons (dTup (dCons (dC (.str "spot")) (dCons (dVar 1) dNil))) (dCons (dTup (dCons (dC (.str "spot")) (dCons (dVar 2) dNil))) dNil)))) (dCons (dTup (dCons (dC (.str "both")) (dCons (dTup (dCons (dC (.str "spot")) (dCons (dVar 1) dNil))) dNil))) (dCons (dTup (dCons (dC (.str "not")) (dCons (dTup (dCons (dC (.str "spot")) (dCons (dVar 1) dNil))) dNil))) (dCons (dTup (dCons (dC (.str "closure")) (dCons (dC (.str "A")) dNil))) (dCons (dTup (dCons (dC (.str "inner")) (dCons (dTup (dCons (dC (.str "spot")) (dCons (dVar 2) dNil))) (dCons (dTup (dCons (dC (.str "spot")) (dCons (dVar 2) dNil))) dNil)))) (dCons (dTup (dCons (dTup (dCons (dC (.str "A")) (dCons (dTup (dCons (dC (.str "spot")) (dCons (dVar 1) dNil))) dNil))) dNil)) (dCons (dTup (dCons (dTup (dCons (dC (.str "B")) (dCons (dTup (dCons (dC (.str "spot")) (dCons (dVar 1) dNil))) dNil))) (dCons (dTup (dCons (dC (.str "A")) (dCons (dTup (dCons (dC (.str "spot")) (dCons (dVar 1) dNil))) dNil))) dNil))) (dCons (dTup (dCons (dTup (dCons (dC (.str "a")) (dCons (dTup (dCons (dC (.str "spot")) (dCons (dVar 1) dNil))) dNil))) dNil)) (dCons (dTup (dCons (dTup (dCons (dC (.str "A")) (dCons (dVar 1) dNil))) dNil)) (dCons (dTup (dCons (dTup (dCons (dC (.str "A")) (dCons (dTup (dCons (dC (.str "spot")) (dCons (dVar 1) dNil))) dNil))) (dCons (dTup (dCons (dC (.str "A")) (dCons (dTup (dCons (dC (.str "spot")) (dCons (dVar 2) dNil))) dNil))) dNil))) (dCons (dTup (dCons (dTup (dCons (dVar 1) (dCons (dVar 2) dNil))) (dCons (dTup (dCons (dVar 2) (dCons (dVar 1) dNil))) dNil))) (dCons (dTup (dCons (dTup (dCons (dVar 1) (dCons (dVar 1) dNil))) dNil)) dNil)))))))))))))))))))))))))))))))))))))))))))))))))))))))))))))))))))))))))))))) (hName 4))
def b_odd_3 : TSd := (dRet (dFn0 sp_one_of (dCons (dVar 0) (dCons (dVar 4) dNil))))
def b_odd : TSd := (dSeq b_odd_1 (dSeq b_odd_2 b_odd_3))
def b_bent_1 (sp_self : SpD) : TSd := (dIfS (dAndT (dTst (dIs "tuple" (dVar 1))) (dAndT (dTst (dBin rNeV (dVar 1) (dTup dNil))) (dTst (dBin rGtD (dFn0 sp_draw (dCons (dVar 0) (dCons (dC (.int 5)) dNil))) (dC (.int 0)))))) (dSeq (dAsg (dFn0 sp_draw (dCons (dVar 0) (dCons (dCall cLen (dCons (dVar 1) dNil)) dNil))) (hName 2)) (dRet (dBin rAddD (dBin rAddD (dSl (dVar 1) dNoP (dPart (dVar 2))) (dTup (dCons (dFn0 sp_self (dCons (dVar 0) (dCons (dBin rIxD (dVar 1) (dVar 2)) dNil))) dNil))) (dSl (dVar 1) (dPart (dBin rAddD (dVar 2) (dC (.int 1)))) dNoP)))) dNext)
def b_bent_2 (sp_self : SpD) : TSd := (dAsg (dFn0 sp_draw (dCons (dVar 0) (dCons (dC (.int 9)) dNil))) (hName 3))
def b_bent_3 (sp_self : SpD) : TSd := (dIfS (dAndT (dTst (dIs "tuple" (dVar 1))) (dTst (dBin rLtD (dVar 3) (dC (.int 7))))) (dRet (dBin rIxD (dTup (dCons (dCall cListV (dCons (dVar 1) dNil)) (dCons (dSl (dVar 1) dNoP (dPart (dNeg (dC (.int 1))))) (dCons (dBin rAddD (dVar 1) (dSl (dVar 1) (dPart (dNeg (dC (.int 1)))) dNoP)) (dCons (dRev (dVar 1)) (dCons (dSl (dVar 1) (dPart (dC (.int 1))) dNoP) (dCons (dBin rAddD (dSl (dVar 1) dNoP (dPart (dC (.int 1)))) (dVar 1)) (dCons (dTup (dCons (dVar 1) dNil)) dNil)))))))) (dVar 3))) dNext)
def b_bent_4 (sp_self : SpD) : TSd := (dIfS (dAndT (dTst (dIs "int" (dVar 1))) (dTst (dBin rLtD (dVar 3) (dC (.int 6))))) (dRet (dBin rIxD (dTup (dCons (dBin rAddD (dVar 1) (dC (.int 1))) (dCons (dBin rSubD (dC (.int 0)) (dVar 1)) (dCons (dBin rMulD (dC (.int 2)) (dVar 1)) (dCons (dBin rSubD (dVar 1) (dC (.int 2))) (dCons (dBin rEqV (dVar 1) (dC (.int 1))) (dCons (dCall cStrI (dCons (dVar 1) dNil)) dNil))))))) (dVar 3))) dNext)
def b_bent_5 (sp_self : SpD) : TSd := (dRet (dFn0 sp_odd (dCons (dVar 0) dNil)))
def b_bent (sp_self : SpD) : TSd := (dSeq (b_bent_1 sp_self) (dSeq (b_bent_2 sp_self) (dSeq (b_bent_3 sp_self) (dSeq (b_bent_4 sp_self) (b_bent_5 sp_self)))))
def b_l_is_whole : TSd := (dRet (dAnd (dIs "int" (dVar 0)) (dNot (dIs "bool" (dVar 0)))))
def b_is_lot : TSd := (dRet (dAnd (dIs "tuple" (dVar 0)) (dChain rLeD rLeD (dVar 1) (dCall cLen (dCons (dVar 0) dNil)) (dVar 2))))
def b_l_is_fraction_1 : TSd := (dIfS (dOrT (dNotT (dTst (dFn0 sp_is_lot (dCons (dVar 0) (dCons (dC (.int 2)) (dCons (dC (.int 2)) dNil)))))) (dNotT (dTst (dCall cAll (dCons (dLcV (dIter (dVar 0)) 1 dYes (dFn0 sp_l_is_whole (dCons (dVar 1) dNil))) dNil))))) (dRet (dC (.bool false))) dNext)
def b_l_is_fraction_2 : TSd := (dRet (dAnd (dBin rGtD (dBin rIxD (dVar 0) (dC (.int 1))) (dC (.int 0))) (dBin rEqV (dFn0 sp_divisor (dCons (dBin rIxD (dVar 0) (dC (.int 0))) (dCons (dBin rIxD (dVar 0) (dC (.int 1))) dNil))) (dC (.int 1)))))
def b_l_is_fraction : TSd := (dSeq b_l_is_fraction_1 b_l_is_fraction_2)
def b_is_told : TSd := (dRet (dAnd (dFn0 sp_is_lot (dCons (dVar 0) (dCons (dC (.int 2)) (dCons (dC (.int 2)) dNil)))) (dCall cAll (dCons (dLcV (dIter (dVar 0)) 1 dYes (dFn0 sp_l_is_fraction (dCons (dVar 1) dNil))) dNil))))
def b_l_sign : TSd := (dRet (dIf (dTst (dBin rGtD (dVar 0) (dC (.int 0)))) (dC (.int 1)) (dIf (dTst (dBin rEqV (dVar 0) (dC (.int 0)))) (dC (.int 0)) (dNeg (dC (.int 1))))))
end LB
local macro_rules | `(tactic| walk_at "val") => `(tactic| repeat' (first | exact DL.vls_nil | apply DL.vls_cons | exact DL.val_c | exact DL.val_dict | exact DL.val_neg | exact DL.val_var rfl | apply DL.val_tup | apply DL.val_lst | apply DL.val_lstV | exact DL.val_pow ⟨by decide, by decide, by decide⟩ | decide))
local macro_rules | `(tactic| walk_at "st") => `(tactic| simp only [DL.startD, List.map_cons, List.map_nil, List.length_cons, List.length_nil, Nat.reduceAdd, Nat.reduceSub, List.replicate_succ, List.replicate_zero, List.cons_append, List.nil_append, List.append_nil, Nat.sub_self, Nat.zero_add])
local macro_rules | `(tactic| walk_at "go") => `(tactic| simp only [↓DL.dSeq, ↓DL.dNext, ↓DL.dAsg, ↓DL.dRet, ↓DL.dRetN, ↓DL.dIfS, ↓DL.dDrop, ↓DL.dBin, ↓DL.dCons, ↓DL.dNil, ↓DL.dTup, ↓DL.dC, ↓DL.dNeg, ↓DL.dAnd, ↓DL.dOr, ↓DL.dNot, ↓DL.dIf, ↓DL.dTst, ↓DL.asB, ↓DL.dChain, ↓DL.dAndT, ↓DL.dOrT, ↓DL.dNotT, ↓DL.dCall, ↓DL.dFn0, ↓DL.dFnK, ↓DL.dIs, ↓DL.dSl, ↓DL.dNoP, ↓DL.dPart, ↓DL.dRev, ↓DL.dLst, ↓DL.dLstV, ↓DL.cListV, ↓DL.dDict, ↓DL.dPar, ↓DL.dPar3, ↓DL.hTup, ↓DL.hCons, ↓DL.nil_go, ↓DL.hName, ↓DL.hSub, ↓DL.rI2, ↓DL.rSubD, ↓DL.rMulD, ↓DL.rMulX, ↓DL.rDivF, ↓DL.rDivD, ↓DL.rModD, ↓DL.rPowD, ↓DL.rLtD, ↓DL.rLeD, ↓DL.rGtD, ↓DL.rGeD, ↓DL.rAddD, ↓DL.ixt_0, ↓DL.ixt_1, ↓DL.ixt_2, ↓DL.ixt_3, ↓DL.ixt_4, ↓DL.ixl_0, ↓DL.ixl_1, ↓DL.ixl_2, ↓DL.ixl_3, ↓DL.ixl_4, ↓DL.rEqV, ↓DL.rNeV, ↓DL.rSlD, ↓DL.cLen, ↓DL.cAbs, ↓DL.cInt, ↓DL.cStrI, ↓DL.cDivmod, ↓DL.cMin, ↓DL.cMax, ↓DL.cGcd, ↓DL.cLcm, ↓DL.cAll, ↓DL.cRepr, ↓DL.cList, ↓DL.cTuple, ↓DL.rC1, ↓DL.rC2, ↓DL.dNever, ↓DL.dIter, ↓DL.dRng1, ↓DL.dRng2, ↓DL.dYes,
  ↓DL.frz_d, ↓DL.var_zero, ↓DL.var_succ, ↓DL.var_set, ↓DL.var_ne, DL.own_some, DL.no_own2, DL.eqv_int, DL.sh_int, DL.sh_bool, DL.kit_int, DL.kit_bool, DL.kit_tuple, DL.kit_str, DL.is_int, DL.is_bool, DL.is_tuple, DL.is_str, DL.pures_nil, DL.pures_cons, Option.map_some, List.length_cons, List.length_nil, List.length_set, List.map_cons, List.map_nil, DL.pick, List.filterMap_cons, List.filterMap_nil,
  true_and, and_true, ite_true, ite_false, if_true, if_false, reduceIte, reduceCtorEq, ne_eq, not_false_eq_true, Nat.reduceAdd, Nat.reduceLT, Nat.reduceEqDiff, decide_eq_true_eq, Bool.not_true, Bool.not_false, Bool.false_eq_true, eq_self])
local macro_rules | `(tactic| walk_at "gk") => `(tactic| simp only [↓LB.sp_divisor, ↓LB.sp_part, ↓LB.sp_place, ↓LB.sp_is_whole, ↓LB.sp_l_is_whole, ↓LB.sp_is_row, ↓LB.sp_is_lot, ↓LB.sp_is_fraction, ↓LB.sp_l_is_fraction, ↓LB.sp_is_place, ↓LB.sp_is_point, ↓LB.sp_is_told, ↓LB.sp_told, ↓LB.sp_own, ↓LB.sp_side, ↓LB.sp_l_is_less, ↓LB.sp_l_lies_on, ↓LB.sp_l_sign, ↓LB.sp_sign, ↓LB.sp_scaled, ↓LB.sp_crossed, ↓LB.sp_along, ↓LB.sp_is_less, ↓DL.dSeq, ↓DL.dNext, ↓DL.dAsg, ↓DL.dRet, ↓DL.dRetN, ↓DL.dIfS, ↓DL.dDrop, ↓DL.dBin, ↓DL.dCons, ↓DL.dNil, ↓DL.dTup, ↓DL.dC, ↓DL.dNeg, ↓DL.dAnd, ↓DL.dOr, ↓DL.dNot, ↓DL.dIf, ↓DL.dTst, ↓DL.asB, ↓DL.dChain, ↓DL.dAndT, ↓DL.dOrT, ↓DL.dNotT, ↓DL.dCall, ↓DL.dFn0, ↓DL.dFnK, ↓DL.dIs, ↓DL.dSl, ↓DL.dNoP, ↓DL.dPart, ↓DL.dRev, ↓DL.dLst, ↓DL.dLstV, ↓DL.cListV, ↓DL.dDict, ↓DL.dPar, ↓DL.dPar3, ↓DL.hTup, ↓DL.hCons, ↓DL.nil_go, ↓DL.hName, ↓DL.hSub, ↓DL.rI2, ↓DL.rSubD, ↓DL.rMulD, ↓DL.rMulX, ↓DL.rDivF, ↓DL.rDivD, ↓DL.rModD, ↓DL.rPowD, ↓DL.rLtD, ↓DL.rLeD, ↓DL.rGtD, ↓DL.rGeD, ↓DL.rAddD, ↓DL.ixt_0, ↓DL.ixt_1, ↓DL.ixt_2, ↓DL.ixt_3, ↓DL.ixt_4, ↓DL.ixl_0, ↓DL.ixl_1, ↓DL.ixl_2, ↓DL.ixl_3, ↓DL.ixl_4, ↓DL.rEqV, ↓DL.rNeV, ↓DL.rSlD, ↓DL.cLen, ↓DL.cAbs, ↓DL.cInt, ↓DL.cStrI, ↓DL.cDivmod, ↓DL.cMin, ↓DL.cMax, ↓DL.cGcd, ↓DL.cLcm, ↓DL.cAll, ↓DL.cRepr, ↓DL.cList, ↓DL.cTuple, ↓DL.rC1, ↓DL.rC2, ↓DL.dNever, ↓DL.dIter, ↓DL.dRng1, ↓DL.dRng2, ↓DL.dYes,
  ↓DL.frz_d, ↓DL.var_zero, ↓DL.var_succ, ↓DL.var_set, ↓DL.var_ne, DL.own_some, DL.no_own2, DL.eqv_int, DL.sh_int, DL.sh_bool, DL.kit_int, DL.kit_bool, DL.kit_tuple, DL.kit_str, DL.is_int, DL.is_bool, DL.is_tuple, DL.is_str, DL.pures_nil, DL.pures_cons, Option.map_some, List.length_cons, List.length_nil, List.length_set, List.map_cons, List.map_nil, DL.pick, List.filterMap_cons, List.filterMap_nil,
  true_and, and_true, ite_true, ite_false, if_true, if_false, reduceIte, reduceCtorEq, ne_eq, not_false_eq_true, Nat.reduceAdd, Nat.reduceLT, Nat.reduceEqDiff, decide_eq_true_eq, Bool.not_true, Bool.not_false, Bool.false_eq_true, eq_self])
namespace LB
open PySem PySem.Spec PyProof.Rows L2 DL
theorem mulW {i j : Int} {a b : Nat} (ha : B a i) (hb : B b j) (h0 : 0 < a) (h1 : 0 < b) (h : a + b ≤ 1000000) : CMulW i j := wide_mul ha hb h0 h1 h
theorem B_of {n : Nat} {i : Int} (k : Nat) (hk : i.natAbs < k) (h : k ≤ 2 ^ n) : B n i := Nat.lt_of_lt_of_le hk h
theorem r_is_whole : ∀ ds st Q, sp_is_whole ds st Q → b_is_whole { nx := fun _ s' => Q (.d .none) s', rt := Q } (startD N_is_whole ds) st := by
  intro ds st Q h
  unfold sp_is_whole at h
  split at h
  · rename_i x
    walk_at "st"
    unfold b_is_whole
    walk_at "go"
    cases x <;> simpa [isW] using h
  · exact h.elim
theorem r_is_row : ∀ ds st Q, sp_is_row ds st Q → b_is_row { nx := fun _ s' => Q (.d .none) s', rt := Q } (startD N_is_row ds) st := by
  intro ds st Q h
  unfold sp_is_row at h
  split at h
  · rename_i x lo hi
    walk_at "st"
    unfold b_is_row
    walk_at "go"
    cases x with
    | tuple xs =>
      simp only [isRow] at h
      walk_at "go"
      by_cases h1 : lo ≤ (xs.length : Int)
      · simpa [h1] using h
      · simpa [h1] using h
    | _ => simpa [isRow] using h
  · exact h.elim
theorem small_div {i j : Int} (h0 : 0 < j) (h : j < 2 ^ 40) : CDivP i j := by
  refine ⟨h0, ?_⟩
  have hj : ¬ (j == 0) = true := by simpa using (show j ≠ 0 by omega)
  have l : j.natAbs.log2 ≤ 39 := PySem.W.mg_log (k := 39) (by omega)
  show (decide ((if j == 0 then 0 else j.natAbs.log2 / 30 + 1) > 300) && _) = false
  rw [if_neg hj, decide_eq_false (by omega), Bool.false_and]
theorem bm1 (v : Int) : B 40 (v % 2147483629) := by
  have t0 := Int.emod_nonneg v (show (2147483629 : Int) ≠ 0 by decide)
  have t1 := Int.emod_lt_of_pos v (show (0 : Int) < 2147483629 by decide)
  unfold B
  omega
theorem bm2 (s : Int) : B 40 (s % 6007 + 50021) := by
  have t0 := Int.emod_nonneg s (show (6007 : Int) ≠ 0 by decide)
  have t1 := Int.emod_lt_of_pos s (show (0 : Int) < 6007 by decide)
  unfold B
  omega
theorem r_draw : ∀ ds st Q, sp_draw ds st Q → b_draw { nx := fun _ s' => Q (.d .none) s', rt := Q } (startD N_draw ds) st := by
  intro ds st Q h
  unfold sp_draw at h
  split at h
  · rename_i p m
    obtain ⟨hm, hm2, n, xs, hst, ⟨x, y, z, rfl, h1, h2, h3, h4⟩, hn, k⟩ := h
    refine ⟨_, rfl, _, _, hst, rfl, trivial, ?_⟩
    show if decide (0 < x) = true then _ else _
    by_cases hx : 0 < x
    · rw [if_pos (decide_eq_true hx)]
      refine ⟨_, rfl, _, _, hst, rfl, _, rfl, small_div hm hm2, .inl ⟨rfl, _, rfl, _, 0, hst, rfl, rfl, _, rfl, .inl ?_⟩⟩
      exact k _ _ ⟨_, rfl, Int.emod_nonneg _ (by omega), Int.emod_lt_of_pos _ hm⟩ ⟨_, y, z, rfl, h1, h2, h3, by omega⟩
    · rw [if_neg (by simpa using hx)]
      have hz : 0 ≤ z + 1 := by omega
      refine ⟨_, rfl, _, _, hst, rfl, .inl ⟨_, rfl, _, 2, hst, rfl, ?_⟩⟩
      have e1 : (put st p ([I x, I y, I z].set 2 (I (z + 1)))) p = some [I x, I y, I (z + 1)] := put_same
      have bz : B 64 (z + 1) := by
        unfold B
        omega
      refine ⟨_, rfl, _, _, e1, rfl, _, rfl, _, _, e1, rfl, mulW (a := 20) (b := 64) (by unfold B; decide) bz (by decide) (by decide) (by decide), ⟨trivial, (show (0 : Int) < 2147483629 by decide), .inl ?_⟩⟩
      refine ⟨_, rfl, _, rfl, trivial, (show (0 : Int) < 6007 by decide), ?_⟩
      refine ⟨mulW (a := 40) (b := 40) (bm1 _) (bm2 _) (by decide) (by decide) (by decide), ?_⟩
      refine ⟨_, rfl, _, _, e1, rfl, mulW (a := 20) (b := 64) (by unfold B; decide) bz (by decide) (by decide) (by decide), trivial, (show (0 : Int) < 2147483629 by decide), .inl ?_⟩
      refine ⟨_, rfl, _, 1, e1, rfl, ?_⟩
      refine ⟨_, rfl, _, _, put_same, rfl, wide_div (b := 20) (by decide) (by decide) (by decide) (by decide), trivial, _, rfl, hm, .inl ?_⟩
      rw [put_put]
      exact k _ _ ⟨_, rfl, Int.emod_nonneg _ (by omega), Int.emod_lt_of_pos _ hm⟩ ⟨x, _, z + 1, rfl, Int.emod_nonneg _ (by decide), Int.emod_lt_of_pos _ (by decide), hz, by omega⟩
  · exact h.elim
end LB
namespace LB
open PySem PySem.Spec PyProof.Rows L2 DL
theorem cut_ints {α β : Type} (f : α → β) (xs : List α) (lo hi : Option Int) : cutP (xs.map f) lo hi = (cutP xs lo hi).map f := by
  unfold cutP
  rw [List.length_map, List.map_take, List.map_drop]
theorem mixB {m : Int} (h0 : 0 ≤ m) (h1 : m < 2147483629) : B 40 m := by
  unfold B
  omega
theorem r_spring (c : Int) (hc : 0 ≤ c) (hc2 : c < 1000000) : ∀ ds st Q, sp_spring ds st Q → b_spring c { nx := fun _ s' => Q (.d .none) s', rt := Q } (startD N_spring ds) st := by
  intro ds st Q h
  unfold sp_spring at h
  split at h
  · rename_i ns t
    obtain ⟨hl, h0, h1, k⟩ := h
    walk_at "st"
    have bt : B 40 t := by
      unfold B
      omega
    refine ⟨_, rfl, mulW (a := 40) (b := 40) (by unfold B; decide) bt (by decide) (by decide) (by decide), .inl ?_⟩
    refine ⟨_, rfl, ?_⟩
    refine ⟨fun _ e' st' => st' = st ∧ ∃ (m : Int) (c : Option D), e' = [some (.scr ns), some (.d (.int t)), some (I m), c, none] ∧ 0 ≤ m ∧ m < 2147483629, ⟨rfl, c + 9241 * t, none, rfl, by omega, by omega⟩, ?_⟩
    rintro i e' st' ⟨rfl, m, c, rfl, m0, m1⟩
    refine ⟨(fun a ds z => nomatch z), fun _ => ?_, fun d hd => ?_⟩
    · -- behind the loop
      have own : ∃ o : Int, ∀ (K : D → Sto → Prop), K (I o) st' → (dIf (dTst (dBin rLtD (dVar 1) (dCall cLen (dCons (dVar 0) dNil)))) (dCall cInt (dCons (dBin rIxD (dVar 0) (dVar 1)) dNil)) (dC (.int 0))) [some (.scr ns), some (.d (.int t)), some (I m), c, none] st' K := by
        by_cases ht : t < ns.length
        · have hlt : t.toNat < ns.length := by omega
          refine ⟨ns[t.toNat], fun K hK => ?_⟩
          refine ⟨_, rfl, _, rfl, _, rfl, trivial, ?_⟩
          show if decide (t < ((ns.map fun n => D.d (.int n)).length : Int)) = true then _ else _
          rw [if_pos (decide_eq_true (by rw [List.length_map]; exact ht))]
          refine ⟨_, rfl, _, rfl, _, D.d (.int ns[t.toNat]), rfl, ?_, trivial, hK⟩
          have e1 : ((t.toNat : Nat) : Int) = t := Int.toNat_of_nonneg h0
          have e2 := atI_nat (xs := ns.map fun n => D.d (.int n)) (j := t.toNat) (v := D.d (.int ns[t.toNat])) (by rw [List.getElem?_map, List.getElem?_eq_getElem hlt]; rfl)
          rw [e1] at e2
          exact e2
        · refine ⟨0, fun K hK => ?_⟩
          refine ⟨_, rfl, _, rfl, _, rfl, trivial, ?_⟩
          show if decide (t < ((ns.map fun n => D.d (.int n)).length : Int)) = true then _ else _
          rw [if_neg (by rw [List.length_map]; simpa using ht)]
          exact hK
      obtain ⟨o, ho⟩ := own
      refine ho _ (.inl ?_)
      unfold b_spring_4 b_spring_5
      walk_at "go"
      have mb := mixB m0 m1
      have q0 := Int.emod_nonneg o (show (2147483587 : Int) ≠ 0 by decide)
      have q1 := Int.emod_lt_of_pos o (show (0 : Int) < 2147483587 by decide)
      refine ⟨mulW (a := 40) (b := 40) mb (by unfold B; decide) (by decide) (by decide) (by decide), by decide, mulW (a := 40) (b := 40) (by unfold B; omega) (by unfold B; decide) (by decide) (by decide) (by decide), by decide, ?_⟩
      have fin : ∀ v w : Int, 0 ≤ w → w < 2147483629 → mkL [D.d (.int v), D.d (.int w), D.d (.int 0)] st' (frz Q) := fun v w h2 h3 => .inr fun p hp => .inl (k p _ hp ⟨v, w, 0, rfl, h2, h3, by omega, by omega⟩)
      have z0 := Int.emod_nonneg (m * 61 + o % 2147483587 * 30011 + 7) (show (2147483629 : Int) ≠ 0 by decide)
      have z1 := Int.emod_lt_of_pos (m * 61 + o % 2147483587 * 30011 + 7) (show (0 : Int) < 2147483629 by decide)
      have three : 3 ≤ sizeLine := by decide
      by_cases hneg : o < 0
      · rw [if_pos hneg]
        exact ⟨three, fin _ _ z0 z1⟩
      · rw [if_neg hneg]
        refine ⟨⟨by decide, by decide, by decide⟩, ?_⟩
        split
        · exact ⟨three, fin _ _ z0 z1⟩
        · exact ⟨three, fin _ _ z0 z1⟩
    · have hd' : (((cutP ns none (some 9)).map PyData.int).map D.d)[i]? = some d := hd
      rw [List.getElem?_map, List.getElem?_map] at hd'
      cases hc : (cutP ns none (some 9))[i]? with
      | none =>
        rw [hc] at hd'
        cases hd'
      | some v =>
        rw [hc] at hd'
        cases hd'
        show (dAsg _ _) _ _ _
        walk_at "go"
        refine ⟨mulW (a := 40) (b := 40) (mixB m0 m1) (by unfold B; decide) (by decide) (by decide) (by decide), by decide, by decide, _, some (D.d (.int v)), rfl, Int.emod_nonneg _ (by decide), Int.emod_lt_of_pos _ (by decide)⟩
  · exact h.elim
theorem r_one_of : ∀ ds st Q, sp_one_of ds st Q → b_one_of { nx := fun _ s' => Q (.d .none) s', rt := Q } (startD N_one_of ds) st := by
  intro ds st Q h
  unfold sp_one_of at h
  split at h
  · rename_i p xs
    obtain ⟨h0, h1, n, ys, hst, hy, hn, k⟩ := h
    refine ⟨_, rfl, _, rfl, _, rfl, _, rfl, by rw [List.length_map]; omega, by rw [List.length_map]; omega, n, ys, hst, hy, hn, ?_⟩
    rintro _ ys' ⟨i, rfl, i0, i1⟩ hy'
    rw [List.length_map] at i1
    have hlt : i.toNat < xs.length := by omega
    refine ⟨_, D.d xs[i.toNat], rfl, ?_, .inl (k _ ys' ⟨_, rfl, List.getElem_mem hlt⟩ hy')⟩
    have e1 : ((i.toNat : Nat) : Int) = i := Int.toNat_of_nonneg i0
    have e2 := atI_nat (xs := xs.map D.d) (j := i.toNat) (v := D.d xs[i.toNat]) (by rw [List.getElem?_map, List.getElem?_eq_getElem hlt]; rfl)
    rw [e1] at e2
    exact e2
  · rename_i p xs
    obtain ⟨h0, h1, n, ys, hst, hy, hn, k⟩ := h
    refine ⟨_, rfl, _, rfl, _, rfl, by omega, by omega, n, ys, hst, hy, hn, ?_⟩
    rintro _ ys' ⟨i, rfl, i0, i1⟩ hy'
    have hlt : i.toNat < xs.length := by omega
    refine ⟨xs[i.toNat], ?_, .inl (k _ ys' ⟨_, rfl, List.getElem_mem hlt⟩ hy')⟩
    have e1 : ((i.toNat : Nat) : Int) = i := Int.toNat_of_nonneg i0
    have e2 := atI_nat (xs := xs) (j := i.toNat) (List.getElem?_eq_getElem hlt)
    rw [e1] at e2
    exact e2
  · exact h.elim
theorem r_odd : ∀ ds st Q, sp_odd ds st Q → b_odd { nx := fun _ s' => Q (.d .none) s', rt := Q } (startD N_odd ds) st := by
  intro ds st Q h
  unfold sp_odd at h
  split at h
  · rename_i p
    obtain ⟨n, ys, hst, hy, hn, k⟩ := h
    refine ⟨by decide, by decide, by decide, by decide, by decide, by decide, by decide, by decide, by decide, by decide, .inl ⟨rfl, rfl, ?_⟩⟩
    dsimp only
    simp only [↓dSeq, ↓dAsg]
    apply lstV_then
    · walk_at "val"
    · decide
    · intro xs hl
      refine Or.inl ⟨_, rfl, _, rfl, ?_, ?_, n, ys, hst, hy, hn, fun d ys' hd hy' => .inl (k d ys' (let ⟨x, e, _⟩ := hd; ⟨x, e⟩) hy')⟩
      · rw [hl]
        decide
      · rw [hl]
        decide
  · exact h.elim
theorem r_divisor : ∀ ds st Q, sp_divisor ds st Q → b_divisor { nx := fun _ s' => Q (.d .none) s', rt := Q } (startD N_divisor ds) st := by
  intro ds st Q h
  unfold sp_divisor at h
  split at h
  · rename_i a b
    walk_at "st"
    refine ⟨_, rfl, trivial, _, rfl, trivial, ?_⟩
    refine ⟨fun m e' st' => st' = st ∧ ∃ f : Nat, e' = [some (I a), some (I b), some (I f), some (I m)] ∧ Nat.gcd f m = Nat.gcd a.natAbs b.natAbs, ⟨b.natAbs, rfl, a.natAbs, ?_, rfl⟩, ?_⟩
    · have ha : (if a < 0 then -a else a) = (a.natAbs : Int) := by split <;> omega
      have hb : (if b < 0 then -b else b) = (b.natAbs : Int) := by split <;> omega
      show [_, _, some (D.d (.int (if a < 0 then -a else a))), some (D.d (.int (if b < 0 then -b else b)))] = _
      rw [ha, hb]
    · rintro m e' st' ⟨rfl, f, rfl, hg⟩
      refine ⟨_, rfl, ?_⟩
      show if (!decide ((m : Int) = 0)) = true then _ else _
      by_cases hm : m = 0
      · subst hm
        rw [if_neg (by decide)]
        rw [Nat.gcd_zero_right] at hg
        refine ⟨_, rfl, .inl ?_⟩
        show Q (I (f : Int)) st'
        rw [hg]
        exact h
      · rw [if_pos (by simpa using hm)]
        refine ⟨_, rfl, _, rfl, trivial, _, rfl, by omega, f % m, Nat.mod_lt _ (Nat.pos_of_ne_zero hm), rfl, m, ?_, ?_⟩
        · show [_, _, some (I (m : Int)), some (D.d (.int ((f : Int) % (m : Int))))] = _
          rw [← Int.natCast_emod]
        · rw [Nat.gcd_comm, ← Nat.gcd_rec, Nat.gcd_comm]
          exact hg
  · exact h.elim
end LB
namespace LB
open PySem PySem.Spec PyProof.Rows L2 DL
theorem is_then {T : String} (hT : ∀ d, (kitB (tyD d) T).isSome = true) {i : Nat} {e : Ed} {st : Sto} {Q : Kd} {x : PyData} (h : e[i]? = some (some (.d x))) (q : Q (.d (.bool (isT T (.d x)))) st) : dIs T (dVar i) e st Q := ⟨_, h, (fun a z => nomatch z), hT _, q⟩
theorem kt (d : D) : (kitB (tyD d) "tuple").isSome = true := kit_all (by decide +kernel) d
theorem ki (d : D) : (kitB (tyD d) "int").isSome = true := kit_all (by decide +kernel) d
theorem cutP_len {α : Type} (xs : List α) (lo hi : Option Int) : (cutP xs lo hi).length ≤ xs.length := by
  unfold cutP
  rw [List.length_take, List.length_drop]
  omega
theorem at_small {α : Type} {xs : List α} {i : Int} (h0 : 0 ≤ i) (h1 : i < xs.length) : ∃ x, x ∈ xs ∧ atI xs i = some x := by
  have hlt : i.toNat < xs.length := by omega
  have e1 : ((i.toNat : Nat) : Int) = i := Int.toNat_of_nonneg h0
  have e2 := atI_nat (xs := xs) (j := i.toNat) (List.getElem?_eq_getElem hlt)
  rw [e1] at e2
  exact ⟨_, List.getElem_mem hlt, e2⟩
theorem big_ok {n : Nat} (h : n ≤ 3000) : n ≤ sizeLine := Nat.le_trans h (by decide)
theorem r_bent (k : Nat) (self : SpD) (hs : ∀ j, k = j + 1 → ∀ ds st Q, sp_bentK j ds st Q → self ds st Q) : ∀ ds st Q, sp_bentK k ds st Q → b_bent self { nx := fun _ s' => Q (.d .none) s', rt := Q } (startD N_bent ds) st := by
  intro ds st Q h
  unfold sp_bentK at h
  split at h
  · rename_i p x
    obtain ⟨hx, n, ys, hst, hy, hn, kk⟩ := h
    show b_bent self _ [some (.own p), some (.d x), none, none] st
    -- what follows a draw from nine
    have rest : ∀ (ys : List D) (st : Sto), st p = some ys → SprL ys (n + 2 * k) → (∀ d xs', (∃ x, d = D.d x) → SprL xs' (n + (2 * k + 2)) → Q d (put st p xs')) →
        (dSeq (b_bent_2 self) (dSeq (b_bent_3 self) (dSeq (b_bent_4 self) (b_bent_5 self)))) { nx := fun _ s' => Q (.d .none) s', rt := Q } [some (.own p), some (.d x), none, none] st := by
      intro ys st hst hy kk
      refine ⟨_, rfl, by decide, by decide, n + 2 * k, ys, hst, hy, by omega, ?_⟩
      rintro _ zs ⟨i, rfl, i0, i1⟩ hz
      refine .inl ?_
      have kk1 : ∀ x, Q (.d x) (put st p zs) := fun x => by
        have := kk (.d x) zs ⟨x, rfl⟩ (hz.mono (by omega))
        exact this
      have last : (b_bent_5 self) { nx := fun _ s' => Q (.d .none) s', rt := Q } [some (.own p), some (.d x), none, some (I i)] (put st p zs) := by
        refine ⟨_, rfl, n + 2 * k + 1, zs, put_same, hz, by omega, ?_⟩
        rintro _ ws ⟨w, rfl⟩ hw
        rw [put_put]
        exact .inl (kk _ ws ⟨w, rfl⟩ hw)
      have four : (∀ xs, x ≠ .tuple xs) → (dSeq (b_bent_4 self) (b_bent_5 self)) { nx := fun _ s' => Q (.d .none) s', rt := Q } [some (.own p), some (.d x), none, some (I i)] (put st p zs) := by
        intro nt
        cases x with
        | int v =>
          unfold b_bent_4
          walk_at "go"
          have bv : B 1000 v := by
            cases k <;> exact hx
          split
          · refine ⟨mulW (a := 20) (b := 1000) (by unfold B; decide) bv (by decide) (by decide) (by decide), ?_, ?_, ?_⟩
            · have := PySem.Flt.log2_lt_of (by decide : 0 < 1000) bv
              omega
            · exact big_ok (by decide)
            · obtain ⟨z, hz1, hz2⟩ := at_small (xs := [PyData.int (v + 1), .int (0 - v), .int (2 * v), .int (v - 2), .bool (decide (v = 1)), .str (toString v : String)]) i0 (by simpa using (by omega))
              exact ⟨z, hz2, .inl (kk1 z)⟩
          · exact last
        | tuple xs => exact absurd rfl (nt xs)
        | bool b => exact absurd hx (by cases k <;> exact id)
        | _ =>
          unfold b_bent_4
          walk_at "go"
          exact last
      cases x with
      | tuple xs =>
        have hl : xs.length ≤ 1000 := by
          cases k with
          | zero => exact hx.elim
          | succ k => exact hx.1
        unfold b_bent_3 b_bent_4
        walk_at "go"
        split
        · have c1 := cutP_len xs (some (-1)) none
          have c2 := cutP_len xs none (some 1)
          refine ⟨big_ok (by omega), big_ok (by omega), big_ok (by decide), big_ok (by decide), ?_⟩
          obtain ⟨z, hz1, hz2⟩ := at_small (xs := [PyData.list xs, .tuple (cutP xs none (some (-1))), .tuple (xs ++ cutP xs (some (-1)) none), .tuple xs.reverse, .tuple (cutP xs (some 1) none), .tuple (cutP xs none (some 1) ++ xs), .tuple [.tuple xs]]) i0 (by simpa using (by omega))
          exact ⟨z, hz2, .inl (kk1 z)⟩
        · exact last
      | _ =>
        unfold b_bent_3
        walk_at "go"
        exact four (fun _ => (nomatch ·))
    have go2 : ∀ (ys : List D) (st' : Sto), (∀ d xs', (∃ x, d = D.d x) → SprL xs' (n + (2 * k + 2)) → Q d (put st' p xs')) → st' p = some ys → SprL ys (n + 2 * k) →
        (dSeq (b_bent_2 self) (dSeq (b_bent_3 self) (dSeq (b_bent_4 self) (b_bent_5 self)))) { nx := fun _ s' => Q (.d .none) s', rt := Q } [some (.own p), some (.d x), none, none] st' := fun ys st' kk hst hy => rest ys st' hst hy kk
    have skip := go2 ys st (fun d xs' hd h => kk d xs' hd h) hst (hy.mono (by omega))
    cases x with
    | tuple xs =>
      obtain ⟨j, rfl⟩ : ∃ j, k = j + 1 := by
        cases k with
        | zero => exact hx.elim
        | succ j => exact ⟨j, rfl⟩
      obtain ⟨hl, hsh, hpl⟩ := hx
      refine is_then kt rfl ?_
      rw [is_tuple]
      refine ⟨_, rfl, big_ok (by decide), hsh, by simp [SeqAt.shaped, PyData.canLay0, PyData.canLayAll0, PyData.depth, PyData.depthAll], ?_⟩
      cases xs with
      | nil => exact skip
      | cons x0 xs =>
        refine ⟨_, rfl, by decide, by decide, n, ys, hst, hy, by omega, ?_⟩
        rintro _ zs ⟨i, rfl, i0, i1⟩ hz
        refine ⟨trivial, ?_⟩
        show if decide (0 < i) = true then _ else _
        by_cases hi : 0 < i
        · rw [if_pos (decide_eq_true hi)]
          have hlen : (0 : Int) < ((x0 :: xs).length : Nat) := by
            rw [List.length_cons]
            omega
          refine ⟨_, rfl, _, rfl, hlen, by omega, n + 1, zs, put_same, hz, by omega, ?_⟩
          rintro _ ws ⟨a, rfl, a0, a1⟩ hw
          rw [put_put]
          refine .inl ⟨_, rfl, _, rfl, _, rfl, _, rfl, _, rfl, ?_⟩
          obtain ⟨y, y1, y2⟩ := at_small (xs := x0 :: xs) a0 a1
          refine ⟨y, y2, hs j rfl _ _ _ ⟨hpl y y1, n + 2, ws, put_same, hw, by omega, ?_⟩⟩
          rintro _ vs ⟨z, rfl⟩ hv
          rw [put_put]
          have c1 := cutP_len (x0 :: xs) none (some a)
          have c2 := cutP_len (x0 :: xs) (some (a + 1)) none
          refine ⟨big_ok (by show 1 ≤ 3000; omega), big_ok (by simp only [List.length_cons, List.length_nil] at *; omega), _, rfl, _, rfl, big_ok (by simp only [List.length_cons, List.length_nil, List.length_append] at *; omega), .inl ?_⟩
          exact kk _ vs ⟨_, rfl⟩ (hv.mono (by omega))
        · rw [if_neg (by simpa using hi)]
          refine go2 zs _ (fun d xs' hd h => ?_) put_same (hz.mono (by omega))
          rw [put_put]
          exact kk d xs' hd h
    | _ =>
      refine is_then kt rfl ?_
      rw [is_tuple]
      exact skip
  · exact h.elim
end LB
namespace K42
open PySem PySem.Spec PyProof.Rows L2 DL LB
def topS (i : Nat) : Stmt := PySem.Challenge.pw_bentalike_k42_whole_picks_of_anything.main.body.getD i (.Pass ⟨0, 0, 0, 0⟩)
abbrev s_is_row : Stmt := topS 1
abbrev N_is_row : List Str := ["value", "low", "high"]
theorem sc_is_row : FnScope N_is_row ["value", "low", "high"] (defScope s_is_row) := ⟨rfl, rfl, rfl, by decide +kernel, rfl, by decide +kernel, by decide +kernel⟩
abbrev s_is_name : Stmt := topS 7
abbrev N_is_name : List Str := ["value"]
theorem sc_is_name : FnScope N_is_name ["value"] (defScope s_is_name) := ⟨rfl, rfl, rfl, by decide +kernel, rfl, by decide +kernel, by decide +kernel⟩
abbrev s_is_pick_form : Stmt := topS 8
abbrev N_is_pick_form : List Str := ["value", "deep"]
theorem sc_is_pick_form : FnScope N_is_pick_form ["value", "deep"] (defScope s_is_pick_form) := ⟨rfl, rfl, rfl, by decide +kernel, rfl, by decide +kernel, by decide +kernel⟩
abbrev s_is_pick : Stmt := topS 10
abbrev N_is_pick : List Str := ["value"]
theorem sc_is_pick : FnScope N_is_pick ["value"] (defScope s_is_pick) := ⟨rfl, rfl, rfl, by decide +kernel, rfl, by decide +kernel, by decide +kernel⟩
abbrev s_spring : Stmt := topS 12
abbrev N_spring : List Str := ["_law_script", "_law_mixed", "_law_cell", "_law_own"]
theorem sc_spring : FnScope N_spring ["_law_script"] (defScope s_spring) := ⟨rfl, rfl, rfl, by decide +kernel, rfl, by decide +kernel, by decide +kernel⟩
abbrev s_dip : Stmt := topS 13
abbrev N_dip : List Str := ["_law_well", "_law_many", "_law_figure", "_law_seed"]
theorem sc_dip : FnScope N_dip ["_law_well", "_law_many"] (defScope s_dip) := ⟨rfl, rfl, rfl, by decide +kernel, rfl, by decide +kernel, by decide +kernel⟩
abbrev s_any : Stmt := topS 14
abbrev N_any : List Str := ["_law_well", "_law_some"]
theorem sc_any : FnScope N_any ["_law_well", "_law_some"] (defScope s_any) := ⟨rfl, rfl, rfl, by decide +kernel, rfl, by decide +kernel, by decide +kernel⟩
abbrev s_deep : Stmt := topS 15
abbrev N_deep : List Str := ["_law_thing_here", "_law_word", "_law_rest", "_law_many", "_law_below", "_law_part"]
theorem sc_deep : FnScope N_deep ["_law_thing_here"] (defScope s_deep) := ⟨rfl, rfl, rfl, by decide +kernel, rfl, by decide +kernel, by decide +kernel⟩
abbrev s_pick : Stmt := topS 16
abbrev N_pick : List Str := ["_law_well", "_law_deep_here", "_law_one", "_law_two", "_law_word"]
theorem sc_pick : FnScope N_pick ["_law_well", "_law_deep_here"] (defScope s_pick) := ⟨rfl, rfl, rfl, by decide +kernel, rfl, by decide +kernel, by decide +kernel⟩
abbrev s_odd : Stmt := topS 17
abbrev N_odd : List Str := ["_law_well", "_law_some", "_law_more", "_law_last", "_law_far"]
theorem sc_odd : FnScope N_odd ["_law_well"] (defScope s_odd) := ⟨rfl, rfl, rfl, by decide +kernel, rfl, by decide +kernel, by decide +kernel⟩
abbrev s_bent : Stmt := topS 18
abbrev N_bent : List Str := ["_law_well", "_law_thing_here", "_law_at", "_law_kind", "_law_words"]
theorem sc_bent : FnScope N_bent ["_law_well", "_law_thing_here"] (defScope s_bent) := ⟨rfl, rfl, rfl, by decide +kernel, rfl, by decide +kernel, by decide +kernel⟩
abbrev s_thing : Stmt := topS 19
abbrev N_thing : List Str := ["_law_well", "_law_kind", "_law_thing_here"]
theorem sc_thing : FnScope N_thing ["_law_well"] (defScope s_thing) := ⟨rfl, rfl, rfl, by decide +kernel, rfl, by decide +kernel, by decide +kernel⟩
abbrev s_law : Stmt := topS 20
abbrev N_law : List Str := ["_law_script", "_law_well", "_law_lap", "_law_thing_here", "_law_due", "_law_told"]
theorem sc_law : FnScope N_law ["_law_script"] (defScope s_law) := ⟨rfl, rfl, rfl, by decide +kernel, rfl, by decide +kernel, by decide +kernel⟩
structure Tx (K : PySem.W.Frag) (mg : Str → Option Value) : Prop where
  n_abs : mg "abs" = none
  n_divmod : mg "divmod" = none
  n_int : mg "int" = none
  n_isinstance : mg "isinstance" = none
  n_len : mg "len" = none
  n_list : mg "list" = none
  n_max : mg "max" = none
  n_min : mg "min" = none
  n_range : mg "range" = none
  n_repr : mg "repr" = none
  n_str : mg "str" = none
  n_tuple : mg "tuple" = none
  g_NAMES : GTup K mg "NAMES" ["A", "B", "C", "D"]
  g_NEARBY : GTup K mg "NEARBY" ["closure", "inner", "rim"]
  g_PAIRED : GTup K mg "PAIRED" ["both", "either", "less"]
  h_is_row : Has K mg "is_row" s_is_row
  h_is_name : Has K mg "is_name" s_is_name
  h_is_pick_form : HasD K mg "is_pick_form" s_is_pick_form [V.int 6]
  h_is_pick : Has K mg "is_pick" s_is_pick
  h_spring : Has K mg "_law_spring" s_spring
  h_dip : Has K mg "_law_dip" s_dip
  h_any : Has K mg "_law_any" s_any
  h_deep : Has K mg "_law_deep" s_deep
  h_pick : Has K mg "_law_pick" s_pick
  h_odd : Has K mg "_law_odd" s_odd
  h_bent : Has K mg "_law_bent" s_bent
  h_thing : Has K mg "_law_thing" s_thing
  h_law : Has K mg "law" s_law
end K42
namespace K42
open PySem PySem.Spec PyProof.Rows L2 DL LB
/-- tuples at most n within one another -/
def Nst : Nat → PyData → Prop
  | 0, x => ∀ xs, x ≠ .tuple xs
  | n + 1, x => match x with
    | .tuple xs => ∀ y ∈ xs, Nst n y
    | _ => True
def nms : List Str := ["A", "B", "C", "D"]
def ones : List Str := ["not", "rim", "inner", "closure"]
def twos : List Str := ["both", "either", "less"]
def isNm : PyData → Bool
  | .str c => nms.contains c
  | _ => false
/-- how deep, by the law's own look -/
def deepF : Nat → PyData → Int
  | 0, _ => 0
  | n + 1, x => match x with
    | .tuple (.str w :: rest) =>
      if w = "name" then (match rest with
        | [c] => if isNm c then 1 else 0
        | _ => 0)
      else if w = "all" then (if rest.length = 0 then 1 else 0)
      else if w ∈ ones then (match rest with
        | [y] => if deepF n y = 0 then 0 else 1 + deepF n y
        | _ => 0)
      else if w ∈ twos then (match rest with
        | [y, z] => if deepF n y = 0 ∨ deepF n z = 0 then 0 else 1 + (if deepF n y ≤ deepF n z then deepF n z else deepF n y)
        | _ => 0)
      else 0
    | _ => 0
/-- a pick, up to so deep -/
def pickOk : Nat → PyData → Bool
  | 0, _ => false
  | n + 1, x => match x with
    | .tuple (.str w :: rest) =>
      if rest.length > 2 then false
      else if w = "all" then decide (rest.length = 0)
      else if w = "name" then (match rest with
        | [c] => isNm c
        | _ => false)
      else if w ∈ ones then (match rest with
        | [y] => pickOk n y
        | _ => false)
      else if w ∈ twos then (match rest with
        | [y, z] => pickOk n y && pickOk n z
        | _ => false)
      else false
    | _ => false
theorem deep_nonneg : ∀ n x, 0 ≤ deepF n x := by
  intro n
  induction n with
  | zero => intro x; exact Int.le_refl 0
  | succ n ih =>
    intro x
    unfold deepF
    split
    · rename_i w rest
      split
      · split
        · split <;> decide
        · decide
      · split
        · split <;> decide
        · split
          · split
            · rename_i y
              have := ih y
              split <;> omega
            · decide
          · split
            · split
              · rename_i y z
                have := ih y
                have := ih z
                split
                · decide
                · split <;> omega
              · decide
            · decide
    · decide
theorem ones_not {w : Str} (h : w ∈ ones) : w ≠ "all" ∧ w ≠ "name" ∧ w ∉ twos := by
  simp only [ones, List.mem_cons, List.mem_nil_iff, or_false] at h
  rcases h with rfl | rfl | rfl | rfl <;> decide
theorem twos_not {w : Str} (h : w ∈ twos) : w ≠ "all" ∧ w ≠ "name" ∧ w ∉ ones := by
  simp only [twos, List.mem_cons, List.mem_nil_iff, or_false] at h
  rcases h with rfl | rfl | rfl <;> decide
theorem nst_tup {n : Nat} {xs : List PyData} (h : Nst n (.tuple xs)) : ∃ m, n = m + 1 ∧ ∀ y ∈ xs, Nst m y := by
  cases n with
  | zero => exact absurd rfl (h xs)
  | succ m => exact ⟨m, rfl, h⟩
/-- the two looks agree -/
theorem deep_pick : ∀ (j n : Nat) (x : PyData), Nst n x → ((0 < deepF n x ∧ deepF n x ≤ (j : Int)) ↔ pickOk j x = true) := by
  intro j
  induction j with
  | zero =>
    intro n x _
    constructor
    · rintro ⟨a, b⟩
      omega
    · intro h
      simp [pickOk] at h
  | succ j ih =>
    intro n x hx
    cases x with
    | tuple xs =>
      obtain ⟨n, rfl, hy⟩ := nst_tup hx
      cases xs with
      | nil => simp [deepF, pickOk]
      | cons a rest =>
        cases a with
        | str w =>
          unfold deepF pickOk
          dsimp only
          by_cases e1 : w = "name"
          · have e2 : w ≠ "all" := by rw [e1]; decide
            rw [if_pos e1, if_neg e2, if_pos e1]
            match rest with
            | [] => simp
            | [c] =>
              have l1 : ¬ ([c].length > 2) := by simp
              rw [if_neg l1]
              dsimp only
              cases isNm c
              · rw [if_neg (by decide)]
                exact ⟨fun z => absurd z.1 (by decide), fun z => by cases z⟩
              · rw [if_pos rfl]
                exact ⟨fun _ => rfl, fun _ => ⟨by decide, by omega⟩⟩
            | a :: b :: c => simp
          · rw [if_neg e1]
            by_cases e2 : w = "all"
            · rw [if_pos e2, if_pos e2]
              match rest with
              | [] =>
                simp
                omega
              | a :: b =>
                simp
            · rw [if_neg e2, if_neg e2, if_neg e1]
              by_cases e3 : w ∈ ones
              · rw [if_pos e3, if_pos e3]
                match rest, hy with
                | [], _ => simp
                | [y], hy =>
                  have q := ih n y (hy y (by simp))
                  have q0 := deep_nonneg n y
                  dsimp only
                  have l1 : ¬ ([y].length > 2) := by simp
                  rw [if_neg l1, ← q]
                  by_cases z : deepF n y = 0
                  · rw [if_pos z, z]
                    omega
                  · rw [if_neg z]
                    omega
                | a :: b :: c, _ =>
                  dsimp only
                  simp
              · rw [if_neg e3, if_neg e3]
                by_cases e4 : w ∈ twos
                · rw [if_pos e4, if_pos e4]
                  match rest, hy with
                  | [], _ => simp
                  | [y], _ => simp
                  | [y, z], hy =>
                    have q := ih n y (hy y (by simp))
                    have q' := ih n z (hy z (by simp))
                    have q0 := deep_nonneg n y
                    have q1 := deep_nonneg n z
                    dsimp only
                    have l1 : ¬ ([y, z].length > 2) := by simp
                    rw [if_neg l1, Bool.and_eq_true, ← q, ← q']
                    by_cases z0 : deepF n y = 0 ∨ deepF n z = 0
                    · rw [if_pos z0]
                      omega
                    · rw [if_neg z0]
                      split <;> omega
                  | a :: b :: c :: d, _ =>
                    dsimp only
                    simp
                · rw [if_neg e4, if_neg e4]
                  simp
        | _ => simp [deepF, pickOk]
    | _ => cases n <;> simp [deepF, pickOk]
/-- the picks that the law draws -/
inductive Pk : Nat → PyData → Prop
  | all {n : Nat} : Pk (n + 1) (.tuple [.str "all"])
  | name {n : Nat} {c : Str} (h : c ∈ nms) : Pk (n + 1) (.tuple [.str "name", .str c])
  | one {n : Nat} {w : Str} {x : PyData} (h : w ∈ ones) (a : Pk n x) : Pk (n + 1) (.tuple [.str w, x])
  | two {n : Nat} {w : Str} {x y : PyData} (h : w ∈ twos) (a : Pk n x) (b : Pk n y) : Pk (n + 1) (.tuple [.str w, x, y])
theorem Pk.mono {n : Nat} {x : PyData} (h : Pk n x) : ∀ {m : Nat}, n ≤ m → Pk m x := by
  induction h with
  | all =>
    intro m hm
    obtain ⟨k, rfl⟩ : ∃ k, m = k + 1 := ⟨m - 1, by omega⟩
    exact .all
  | name h =>
    intro m hm
    obtain ⟨k, rfl⟩ : ∃ k, m = k + 1 := ⟨m - 1, by omega⟩
    exact .name h
  | one h a ih =>
    intro m hm
    obtain ⟨k, rfl⟩ : ∃ k, m = k + 1 := ⟨m - 1, by omega⟩
    exact .one h (ih (by omega))
  | two h a b ih1 ih2 =>
    intro m hm
    obtain ⟨k, rfl⟩ : ∃ k, m = k + 1 := ⟨m - 1, by omega⟩
    exact .two h (ih1 (by omega)) (ih2 (by omega))
theorem Nst.up : ∀ {n : Nat} {x : PyData}, Nst n x → Nst (n + 1) x := by
  intro n
  induction n with
  | zero =>
    intro x h
    cases x with
    | tuple xs => exact absurd rfl (h xs)
    | _ => trivial
  | succ n ih =>
    intro x h
    cases x with
    | tuple xs => exact fun y hy => ih (h y hy)
    | _ => trivial
theorem Nst.mono {n m : Nat} {x : PyData} (h : Nst n x) (hm : n ≤ m) : Nst m x := by
  induction hm with
  | refl => exact h
  | step _ ih => exact ih.up
theorem nst_str {n : Nat} {s : Str} : Nst n (.str s) := by
  cases n with
  | zero => intro xs z; cases z
  | succ n => trivial
theorem Pk.nst {n : Nat} {x : PyData} (h : Pk n x) : Nst n x := by
  induction h with
  | all =>
    intro y hy
    cases List.mem_singleton.mp hy
    exact nst_str
  | name h =>
    intro y hy
    rcases List.mem_cons.mp hy with rfl | hy
    · exact nst_str
    · cases List.mem_singleton.mp hy
      exact nst_str
  | one h a ih =>
    intro y hy
    rcases List.mem_cons.mp hy with rfl | hy
    · exact nst_str
    · cases List.mem_singleton.mp hy
      exact ih
  | two h a b ih1 ih2 =>
    intro y hy
    rcases List.mem_cons.mp hy with rfl | hy
    · exact nst_str
    · rcases List.mem_cons.mp hy with rfl | hy
      · exact ih1
      · cases List.mem_singleton.mp hy
        exact ih2
/-! ### what the defs promise -/
def sp_is_row : SpD := fun ds st Q => match ds with
  | [.d x, .d (.int lo), .d (.int hi)] => Q (Bo (isRow lo hi x)) st
  | _ => False
def sp_is_name : SpD := fun ds st Q => ∃ x, ds = [.d x] ∧ Q (Bo (isNm x)) st
def sp_is_pick_formK (n : Nat) : SpD := fun ds st Q => ∃ x, ds = [.d x, I n] ∧ Q (Bo (pickOk n x)) st
def sp_is_pick_form : SpD := sp_is_pick_formK 6
def sp_is_pick : SpD := fun ds st Q => ∃ x, ds = [.d x] ∧ Q (Bo (pickOk 6 x)) st
def sp_spring : SpD := fun ds st Q => match ds with
  | [.scr ns] => ns.length ≤ 63 ∧ ∀ p xs, st p = none → SprL xs 0 → Q (.own p) (put st p xs)
  | _ => False
def sp_dip : SpD := fun ds st Q => match ds with
  | [.own p, .d (.int m)] => 0 < m ∧ m < 2 ^ 40 ∧ spS 1 (fun d => ∃ i, d = I i ∧ 0 ≤ i ∧ i < m) p st Q
  | _ => False
def sp_any : SpD := fun ds st Q => match ds with
  | [.own p, .d (.tuple xs)] => 0 < xs.length ∧ xs.length < 1000 ∧ spS 1 (fun d => ∃ x, d = .d x ∧ x ∈ xs) p st Q
  | _ => False
def sp_deepK (n : Nat) : SpD := fun ds st Q => ∃ x, ds = [.d x] ∧ Nst n x ∧ Q (I (deepF n x)) st
def sp_deep : SpD := sp_deepK 13
def sp_pickK (n : Nat) : SpD := fun ds st Q => ∃ (p : Addr) (j : Nat), ds = [.own p, I (j + 1)] ∧ j ≤ n ∧ spS (6 * 2 ^ n - 4) (fun d => ∃ x, d = .d x ∧ Pk (n + 1) x) p st Q
def sp_pick : SpD := sp_pickK 7
def sp_odd : SpD := fun ds st Q => match ds with
  | [.own p] => spS 1 (fun d => ∃ x, d = .d x ∧ Nst 3 x) p st Q
  | _ => False
def sp_bentK (n : Nat) : SpD := fun ds st Q => ∃ p x, ds = [.own p, .d x] ∧ Pk (n + 1) x ∧ spS (4 * (n + 1)) (fun d => ∃ y, d = .d y ∧ Nst (n + 5) y) p st Q
def sp_bent : SpD := sp_bentK 7
def sp_thing : SpD := fun ds st Q => ∃ p, ds = [.own p] ∧ spS 2000 (fun d => ∃ x, d = .d x ∧ Nst 13 x) p st Q
def sp_law : SpD := fun ds st Q => match ds with
  | [.scr ns] => ns.length ≤ 63 ∧ ∀ st', Q (Bo true) st'
  | _ => False
end K42
namespace K42
open PySem PySem.Spec PyProof.Rows L2 DL LB
def b_is_row : TSd := (dRet (dAnd (dIs "tuple" (dVar 0)) (dChain rLeD rLeD (dVar 1) (dCall cLen (dCons (dVar 0) dNil)) (dVar 2))))
def b_is_name : TSd := (dRet (dAnd (dIs "str" (dVar 0)) (dBin (rInV false) (dVar 0) (dC (.tuple [.str "A", .str "B", .str "C", .str "D"])))))
def b_is_pick_form_1 (sp_self : SpD) : TSd := (dIfS (dOrT (dTst (dBin rEqV (dVar 1) (dC (.int 0)))) (dOrT (dNotT (dTst (dFn0 sp_is_row (dCons (dVar 0) (dCons (dC (.int 1)) (dCons (dC (.int 3)) dNil)))))) (dNotT (dTst (dIs "str" (dBin rIxD (dVar 0) (dC (.int 0)))))))) (dRet (dC (.bool false))) dNext)
def b_is_pick_form_2 (sp_self : SpD) : TSd := (dIfS (dTst (dBin rEqV (dBin rIxD (dVar 0) (dC (.int 0))) (dC (.str "all")))) (dRet (dBin rEqV (dCall cLen (dCons (dVar 0) dNil)) (dC (.int 1)))) dNext)
def b_is_pick_form_3 (sp_self : SpD) : TSd := (dIfS (dTst (dBin rEqV (dBin rIxD (dVar 0) (dC (.int 0))) (dC (.str "name")))) (dRet (dAnd (dBin rEqV (dCall cLen (dCons (dVar 0) dNil)) (dC (.int 2))) (dFn0 sp_is_name (dCons (dBin rIxD (dVar 0) (dC (.int 1))) dNil)))) dNext)
def b_is_pick_form_4 (sp_self : SpD) : TSd := (dIfS (dOrT (dTst (dBin (rInV false) (dBin rIxD (dVar 0) (dC (.int 0))) (dC (.tuple [.str "closure", .str "inner", .str "rim"])))) (dTst (dBin rEqV (dBin rIxD (dVar 0) (dC (.int 0))) (dC (.str "not"))))) (dRet (dAnd (dBin rEqV (dCall cLen (dCons (dVar 0) dNil)) (dC (.int 2))) (dFn0 sp_self (dCons (dBin rIxD (dVar 0) (dC (.int 1))) (dCons (dBin rSubD (dVar 1) (dC (.int 1))) dNil))))) dNext)
def b_is_pick_form_5 (sp_self : SpD) : TSd := (dIfS (dOrT (dTst (dBin (rInV true) (dBin rIxD (dVar 0) (dC (.int 0))) (dC (.tuple [.str "both", .str "either", .str "less"])))) (dTst (dBin rNeV (dCall cLen (dCons (dVar 0) dNil)) (dC (.int 3))))) (dRet (dC (.bool false))) dNext)
def b_is_pick_form_6 (sp_self : SpD) : TSd := (dRet (dAnd (dFn0 sp_self (dCons (dBin rIxD (dVar 0) (dC (.int 1))) (dCons (dBin rSubD (dVar 1) (dC (.int 1))) dNil))) (dFn0 sp_self (dCons (dBin rIxD (dVar 0) (dC (.int 2))) (dCons (dBin rSubD (dVar 1) (dC (.int 1))) dNil)))))
def b_is_pick_form (sp_self : SpD) : TSd := (dSeq (b_is_pick_form_1 sp_self) (dSeq (b_is_pick_form_2 sp_self) (dSeq (b_is_pick_form_3 sp_self) (dSeq (b_is_pick_form_4 sp_self) (dSeq (b_is_pick_form_5 sp_self) (b_is_pick_form_6 sp_self))))))
def b_is_pick : TSd := (dRet (dFn sp_is_pick_form [.d (.int 6)] (dCons (dVar 0) dNil)))
def b_spring_1 : TSd := (dAsg (dC (.int 7121)) (hName 1))
def b_spring_2 : TSd := (dFor (dIter (dSl (dVar 0) dNoP (dPart (dC (.int 63))))) (hName 2) (dAsg (dBin rModD (dCall cInt (dCons (dBin rAddD (dBin rAddD (dBin rMulD (dVar 1) (dC (.int 48611))) (dBin rModD (dCall cInt (dCons (dVar 2) dNil)) (dC (.int 2147483587)))) (dC (.int 11))) dNil)) (dC (.int 2147483579))) (hName 1)))
def b_spring_3 : TSd := (dAsg (dIf (dTst (dBin rGtD (dCall cLen (dCons (dVar 0) dNil)) (dC (.int 0)))) (dCall cInt (dCons (dBin rIxD (dVar 0) (dC (.int 0))) dNil)) (dC (.int 0))) (hName 3))
def b_spring_4 : TSd := (dRet (dLst (dCons (dIf (dOrT (dTst (dBin rLtD (dVar 3) (dC (.int 0)))) (dTst (dBin rGeD (dVar 3) (dBin rPowD (dC (.int 10)) (dC (.int 14)))))) (dCall cAbs (dCons (dVar 3) dNil)) (dC (.int 0))) (dCons (dVar 1) (dCons (dC (.int 0)) dNil)))))
def b_spring : TSd := (dSeq b_spring_1 (dSeq b_spring_2 (dSeq b_spring_3 b_spring_4)))
def b_dip_1 : TSd := (dIfS (dTst (dBin rGtD (dBin rIxD (dVar 0) (dC (.int 0))) (dC (.int 0)))) (dSeq (dAsg (dCall cDivmod (dCons (dBin rIxD (dVar 0) (dC (.int 0))) (dCons (dVar 1) dNil))) (hTup 2 (hCons (hSub (dVar 0) (dC (.int 0))) (hCons (hName 2) hNil)))) (dRet (dVar 2))) dNext)
def b_dip_2 : TSd := (dAsg (dBin rAddD (dBin rIxD (dVar 0) (dC (.int 2))) (dC (.int 1))) (hSub (dVar 0) (dC (.int 2))))
def b_dip_3 : TSd := (dAsg (dBin rModD (dCall cInt (dCons (dBin rAddD (dBin rIxD (dVar 0) (dC (.int 1))) (dBin rMulD (dC (.int 52361)) (dBin rIxD (dVar 0) (dC (.int 2))))) dNil)) (dC (.int 2147483579))) (hName 3))
def b_dip_4 : TSd := (dAsg (dBin rModD (dCall cInt (dCons (dBin rAddD (dBin rMulD (dVar 3) (dBin rAddD (dBin rModD (dCall cInt (dCons (dVar 3) dNil)) (dC (.int 4999))) (dC (.int 43013)))) (dBin rMulD (dC (.int 37)) (dBin rIxD (dVar 0) (dC (.int 2))))) dNil)) (dC (.int 2147483579))) (hSub (dVar 0) (dC (.int 1))))
def b_dip_5 : TSd := (dRet (dBin rModD (dCall cInt (dCons (dBin rDivD (dBin rIxD (dVar 0) (dC (.int 1))) (dC (.int 613))) dNil)) (dVar 1)))
def b_dip : TSd := (dSeq b_dip_1 (dSeq b_dip_2 (dSeq b_dip_3 (dSeq b_dip_4 b_dip_5))))
def b_any : TSd := (dRet (dBin rIxD (dVar 1) (dFn0 sp_dip (dCons (dVar 0) (dCons (dCall cLen (dCons (dVar 1) dNil)) dNil)))))
def b_deep_1 (sp_self : SpD) : TSd := (dIfS (dOrT (dNotT (dTst (dIs "tuple" (dVar 0)))) (dOrT (dTst (dBin rEqV (dCall cLen (dCons (dVar 0) dNil)) (dC (.int 0)))) (dNotT (dTst (dIs "str" (dBin rIxD (dVar 0) (dC (.int 0)))))))) (dRet (dC (.int 0))) dNext)
def b_deep_2 (sp_self : SpD) : TSd := (dPar 1 2 (dCons (dBin rIxD (dVar 0) (dC (.int 0))) (dCons (dSl (dVar 0) (dPart (dC (.int 1))) dNoP) dNil)))
def b_deep_3 (sp_self : SpD) : TSd := (dIfS (dTst (dBin rEqV (dVar 1) (dC (.str "name")))) (dRet (dCall cIntB (dCons (dAnd (dBin rEqV (dCall cLen (dCons (dVar 2) dNil)) (dC (.int 1))) (dAnd (dIs "str" (dBin rIxD (dVar 2) (dC (.int 0)))) (dBin (rInV false) (dBin rIxD (dVar 2) (dC (.int 0))) (dTup (dCons (dC (.str "A")) (dCons (dC (.str "B")) (dCons (dC (.str "C")) (dCons (dC (.str "D")) dNil)))))))) dNil))) dNext)
def b_deep_4 (sp_self : SpD) : TSd := (dIfS (dTst (dBin rEqV (dVar 1) (dC (.str "all")))) (dRet (dCall cIntB (dCons (dBin rEqV (dCall cLen (dCons (dVar 2) dNil)) (dC (.int 0))) dNil))) dNext)
def b_deep_5 (sp_self : SpD) : TSd := (dAsg (dIf (dTst (dBin (rInV false) (dVar 1) (dTup (dCons (dC (.str "not")) (dCons (dC (.str "rim")) (dCons (dC (.str "inner")) (dCons (dC (.str "closure")) dNil))))))) (dC (.int 1)) (dIf (dTst (dBin (rInV false) (dVar 1) (dTup (dCons (dC (.str "both")) (dCons (dC (.str "either")) (dCons (dC (.str "less")) dNil)))))) (dC (.int 2)) (dC (.int 0)))) (hName 3))
def b_deep_6 (sp_self : SpD) : TSd := (dIfS (dOrT (dTst (dBin rEqV (dVar 3) (dC (.int 0)))) (dTst (dBin rNeV (dCall cLen (dCons (dVar 2) dNil)) (dVar 3)))) (dRet (dC (.int 0))) dNext)
def b_deep_7 (sp_self : SpD) : TSd := (dAsg (dLcV (dIter (dVar 2)) 5 dYes (dFn0 sp_self (dCons (dVar 5) dNil))) (hName 4))
def b_deep_8 (sp_self : SpD) : TSd := (dRet (dIf (dTst (dBin (rInV false) (dC (.int 0)) (dVar 4))) (dC (.int 0)) (dBin rAddD (dC (.int 1)) (dCall cMaxL (dCons (dVar 4) dNil)))))
def b_deep (sp_self : SpD) : TSd := (dSeq (b_deep_1 sp_self) (dSeq (b_deep_2 sp_self) (dSeq (b_deep_3 sp_self) (dSeq (b_deep_4 sp_self) (dSeq (b_deep_5 sp_self) (dSeq (b_deep_6 sp_self) (dSeq (b_deep_7 sp_self) (b_deep_8 sp_self))))))))
def b_pick_1 (sp_self : SpD) : TSd := (dIfS (dTst (dBin rLtD (dVar 1) (dC (.int 2)))) (dRet (dIf (dTst (dBin rGtD (dFn0 sp_dip (dCons (dVar 0) (dCons (dC (.int 4)) dNil))) (dC (.int 0)))) (dTup (dCons (dC (.str "name")) (dCons (dFn0 sp_any (dCons (dVar 0) (dCons (dTup (dCons (dC (.str "A")) (dCons (dC (.str "B")) (dCons (dC (.str "C")) (dCons (dC (.str "D")) dNil))))) dNil))) dNil))) (dTup (dCons (dC (.str "all")) dNil)))) dNext)
def b_pick_2 (sp_self : SpD) : TSd := (dAsg (dFn0 sp_self (dCons (dVar 0) (dCons (dBin rSubD (dVar 1) (dC (.int 1))) dNil))) (hName 2))
def b_pick_3 (sp_self : SpD) : TSd := (dIfS (dTst (dBin rEqV (dFn0 sp_dip (dCons (dVar 0) (dCons (dC (.int 2)) dNil))) (dC (.int 0)))) (dRet (dTup (dCons (dFn0 sp_any (dCons (dVar 0) (dCons (dTup (dCons (dC (.str "not")) (dCons (dC (.str "rim")) (dCons (dC (.str "inner")) (dCons (dC (.str "closure")) dNil))))) dNil))) (dCons (dVar 2) dNil)))) dNext)
def b_pick_4 (sp_self : SpD) : TSd := (dAsg (dFn0 sp_self (dCons (dVar 0) (dCons (dBin rAddD (dC (.int 1)) (dFn0 sp_dip (dCons (dVar 0) (dCons (dCall cMin (dCons (dBin rSubD (dVar 1) (dC (.int 1))) (dCons (dC (.int 3)) dNil))) dNil)))) dNil))) (hName 3))
def b_pick_5 (sp_self : SpD) : TSd := (dAsg (dFn0 sp_any (dCons (dVar 0) (dCons (dTup (dCons (dC (.str "both")) (dCons (dC (.str "either")) (dCons (dC (.str "less")) dNil)))) dNil))) (hName 4))
def b_pick_6 (sp_self : SpD) : TSd := (dRet (dIf (dTst (dBin rEqV (dFn0 sp_dip (dCons (dVar 0) (dCons (dC (.int 2)) dNil))) (dC (.int 0)))) (dTup (dCons (dVar 4) (dCons (dVar 2) (dCons (dVar 3) dNil)))) (dTup (dCons (dVar 4) (dCons (dVar 3) (dCons (dVar 2) dNil))))))
def b_pick (sp_self : SpD) : TSd := (dSeq (b_pick_1 sp_self) (dSeq (b_pick_2 sp_self) (dSeq (b_pick_3 sp_self) (dSeq (b_pick_4 sp_self) (dSeq (b_pick_5 sp_self) (b_pick_6 sp_self))))))
def b_odd_1 : TSd := (dAsg (dTup (dCons (dTup (dCons (dC (.str "all")) dNil)) (dCons (dTup (dCons (dC (.str "name")) (dCons (dC (.str "D")) dNil))) (dCons (dC .none) (dCons (dC (.int 0)) (dCons (dC (.bool true)) (dCons (dC (.bool false)) (dCons (dC (.str "")) (dCons (dC (.str "A")) (dCons (dC (.str "all")) (dCons (dC (.str "name")) (dCons (dTup dNil) (dCons (dLstV dNil) (dCons (dDict []) (dCons (dTup (dCons (dC (.str "all")) (dCons (dTup dNil) dNil))) (dCons (dLstV (dCons (dC (.str "all")) dNil)) dNil)))))))))))))))) (hName 1))
def b_odd_2 : TSd := (dAsg (dTup (dCons (dTup (dCons (dC (.str "name")) dNil)) (dCons (dTup (dCons (dC (.str "name")) (dCons (dC (.str "E")) dNil))) (dCons (dTup (dCons (dC (.str "name")) (dCons (dC (.str "a")) dNil))) (dCons (dTup (dCons (dC (.str "name")) (dCons (dC (.str "")) dNil))) (dCons (dTup (dCons (dC (.str "name")) (dCons (dC (.str "AB")) dNil))) (dCons (dTup (dCons (dC (.str "name")) (dCons (dC (.str "A")) (dCons (dC (.str "B")) dNil)))) (dCons (dTup (dCons (dC (.str "A")) dNil)) dNil)))))))) (hName 2))
def b_odd_3 : TSd := (dAsg (dTup (dCons (dTup (dCons (dC (.str "name")) (dCons (dTup (dCons (dC (.str "A")) dNil)) dNil))) (dCons (dTup (dCons (dC (.str "name")) (dCons (dLstV (dCons (dC (.str "A")) dNil)) dNil))) (dCons (dTup (dCons (dLstV (dCons (dC (.str "name")) dNil)) (dCons (dC (.str "A")) dNil))) (dCons (dTup (dCons (dDict []) (dCons (dC (.str "A")) dNil))) (dCons (dTup (dCons (dC (.str "All")) dNil)) (dCons (dTup (dCons (dTup (dCons (dC (.str "all")) dNil)) dNil)) (dCons (dTup (dCons (dC (.str "not")) dNil)) (dCons (dTup (dCons (dC (.str "both")) dNil)) dNil))))))))) (hName 3))
def b_odd_4 : TSd := (dAsg (dTup (dCons (dTup (dCons (dC (.str "name")) (dCons (dC (.int 1)) dNil))) (dCons (dTup (dCons (dC (.str "name")) (dCons (dC .none) dNil))) (dCons (dTup (dCons (dC (.str "name")) (dCons (dC (.bool true)) dNil))) (dCons (dTup (dCons (dC (.int 1)) (dCons (dC (.str "A")) dNil))) (dCons (dTup (dCons (dC .none) dNil)) (dCons (dTup (dCons (dC (.str "rim")) (dCons (dC (.str "A")) dNil))) (dCons (dTup (dCons (dC (.str "not")) (dCons (dC (.str "all")) dNil))) (dCons (dTup (dCons (dC (.str "less")) (dCons (dC (.int 0)) dNil))) dNil))))))))) (hName 4))
def b_odd_5 : TSd := (dRet (dFn0 sp_any (dCons (dVar 0) (dCons (dBin rAddD (dBin rAddD (dBin rAddD (dVar 1) (dVar 2)) (dVar 3)) (dVar 4)) dNil))))
def b_odd : TSd := (dSeq b_odd_1 (dSeq b_odd_2 (dSeq b_odd_3 (dSeq b_odd_4 b_odd_5))))
def b_bent_1 (sp_self : SpD) : TSd := (dIfS (dAndT (dTst (dBin rNeV (dBin rIxD (dVar 1) (dC (.int 0))) (dC (.str "name")))) (dAndT (dTst (dBin rGtD (dCall cLen (dCons (dVar 1) dNil)) (dC (.int 1)))) (dTst (dBin rGtD (dFn0 sp_dip (dCons (dVar 0) (dCons (dC (.int 3)) dNil))) (dC (.int 0)))))) (dSeq (dAsg (dBin rAddD (dC (.int 1)) (dFn0 sp_dip (dCons (dVar 0) (dCons (dBin rSubD (dCall cLen (dCons (dVar 1) dNil)) (dC (.int 1))) dNil)))) (hName 2)) (dRet (dBin rAddD (dBin rAddD (dSl (dVar 1) dNoP (dPart (dVar 2))) (dTup (dCons (dFn0 sp_self (dCons (dVar 0) (dCons (dBin rIxD (dVar 1) (dVar 2)) dNil))) dNil))) (dSl (dVar 1) (dPart (dBin rAddD (dVar 2) (dC (.int 1)))) dNoP)))) dNext)
def b_bent_2 (sp_self : SpD) : TSd := (dAsg (dFn0 sp_dip (dCons (dVar 0) (dCons (dC (.int 9)) dNil))) (hName 3))
def b_bent_3 (sp_self : SpD) : TSd := (dIfS (dTst (dBin rEqV (dVar 3) (dC (.int 0)))) (dRet (dCall cListV (dCons (dVar 1) dNil))) dNext)
def b_bent_4 (sp_self : SpD) : TSd := (dIfS (dTst (dBin rEqV (dVar 3) (dC (.int 1)))) (dRet (dSl (dVar 1) dNoP (dPart (dNeg (dC (.int 1)))))) dNext)
def b_bent_5 (sp_self : SpD) : TSd := (dIfS (dTst (dBin rEqV (dVar 3) (dC (.int 2)))) (dRet (dBin rAddD (dVar 1) (dSl (dVar 1) (dPart (dNeg (dC (.int 1)))) dNoP))) dNext)
def b_bent_6 (sp_self : SpD) : TSd := (dIfS (dTst (dBin rEqV (dVar 3) (dC (.int 3)))) (dRet (dBin rAddD (dVar 1) (dTup (dCons (dTup (dCons (dC (.str "all")) dNil)) dNil)))) dNext)
def b_bent_7 (sp_self : SpD) : TSd := (dIfS (dTst (dBin rEqV (dVar 3) (dC (.int 4)))) (dRet (dTup (dCons (dVar 1) dNil))) dNext)
def b_bent_8 (sp_self : SpD) : TSd := (dIfS (dTst (dBin rLtD (dVar 3) (dC (.int 7)))) (dSeq (dAsg (dTup (dCons (dC (.str "not")) (dCons (dC (.str "rim")) (dCons (dC (.str "inner")) (dCons (dC (.str "closure")) (dCons (dC (.str "both")) (dCons (dC (.str "either")) (dCons (dC (.str "less")) (dCons (dC (.str "all")) (dCons (dC (.str "name")) (dCons (dC (.str "Not")) (dCons (dC (.str "pick")) (dCons (dC (.str "")) dNil))))))))))))) (hName 4)) (dRet (dBin rAddD (dTup (dCons (dFn0 sp_any (dCons (dVar 0) (dCons (dVar 4) dNil))) dNil)) (dSl (dVar 1) (dPart (dC (.int 1))) dNoP)))) dNext)
def b_bent_9 (sp_self : SpD) : TSd := (dRet (dFn0 sp_odd (dCons (dVar 0) dNil)))
def b_bent (sp_self : SpD) : TSd := (dSeq (b_bent_1 sp_self) (dSeq (b_bent_2 sp_self) (dSeq (b_bent_3 sp_self) (dSeq (b_bent_4 sp_self) (dSeq (b_bent_5 sp_self) (dSeq (b_bent_6 sp_self) (dSeq (b_bent_7 sp_self) (dSeq (b_bent_8 sp_self) (b_bent_9 sp_self)))))))))
def b_thing_1 : TSd := (dAsg (dFn0 sp_dip (dCons (dVar 0) (dCons (dC (.int 10)) dNil))) (hName 1))
def b_thing_2 : TSd := (dIfS (dTst (dBin rEqV (dVar 1) (dC (.int 0)))) (dRet (dFn0 sp_odd (dCons (dVar 0) dNil))) dNext)
def b_thing_3 : TSd := (dAsg (dFn0 sp_pick (dCons (dVar 0) (dCons (dFn0 sp_any (dCons (dVar 0) (dCons (dTup (dCons (dC (.int 1)) (dCons (dC (.int 2)) (dCons (dC (.int 3)) (dCons (dC (.int 4)) (dCons (dC (.int 5)) (dCons (dC (.int 6)) (dCons (dC (.int 6)) (dCons (dC (.int 6)) (dCons (dC (.int 7)) (dCons (dC (.int 7)) (dCons (dC (.int 8)) dNil)))))))))))) dNil))) dNil))) (hName 2))
def b_thing_4 : TSd := (dRet (dIf (dTst (dBin rLtD (dVar 1) (dC (.int 4)))) (dVar 2) (dFn0 sp_bent (dCons (dVar 0) (dCons (dVar 2) dNil)))))
def b_thing : TSd := (dSeq b_thing_1 (dSeq b_thing_2 (dSeq b_thing_3 b_thing_4)))
def b_law_1 : TSd := (dAsg (dFn0 sp_spring (dCons (dVar 0) dNil)) (hName 1))
def b_law_2 : TSd := (dFor (dRng1 (dCons (dC (.int 3)) dNil)) (hName 2) (dSeq (dAsg (dFn0 sp_thing (dCons (dVar 1) dNil)) (hName 3)) (dSeq (dAsg (dChain rLtD rLeD (dC (.int 0)) (dFn0 sp_deep (dCons (dVar 3) dNil)) (dC (.int 6))) (hName 4)) (dSeq (dAsg (dIf (dTst (dBin rEqV (dFn0 sp_dip (dCons (dVar 1) (dCons (dC (.int 4)) dNil))) (dC (.int 0)))) (dFnK sp_is_pick [0] (dCons (dVar 3) dNil)) (dFn0 sp_is_pick (dCons (dVar 3) dNil))) (hName 5)) (dIfS (dTst (dBin rNeV (dCall cRepr (dCons (dVar 5) dNil)) (dCall cRepr (dCons (dVar 4) dNil)))) (dRet (dC (.bool false))) dNext)))))
def b_law_3 : TSd := (dRet (dC (.bool true)))
def b_law : TSd := (dSeq b_law_1 (dSeq b_law_2 b_law_3))
end K42
local macro_rules | `(tactic| walk_at "val") => `(tactic| repeat' (first | exact DL.vls_nil | apply DL.vls_cons | exact DL.val_c | exact DL.val_dict | exact DL.val_neg | exact DL.val_var rfl | apply DL.val_tup | apply DL.val_lst | apply DL.val_lstV | exact DL.val_pow ⟨by decide, by decide, by decide⟩ | decide))
local macro_rules | `(tactic| walk_at "st") => `(tactic| simp only [DL.startD, List.map_cons, List.map_nil, List.length_cons, List.length_nil, Nat.reduceAdd, Nat.reduceSub, List.replicate_succ, List.replicate_zero, List.cons_append, List.nil_append, List.append_nil, Nat.sub_self, Nat.zero_add])
local macro_rules | `(tactic| walk_at "go") => `(tactic| simp only [↓DL.dSeq, ↓DL.dNext, ↓DL.dAsg, ↓DL.dRet, ↓DL.dRetN, ↓DL.dIfS, ↓DL.dDrop, ↓DL.dBin, ↓DL.dCons, ↓DL.dNil, ↓DL.dTup, ↓DL.dC, ↓DL.dNeg, ↓DL.dAnd, ↓DL.dOr, ↓DL.dNot, ↓DL.dIf, ↓DL.dTst, ↓DL.asB, ↓DL.dChain, ↓DL.dAndT, ↓DL.dOrT, ↓DL.dNotT, ↓DL.dCall, ↓DL.dFn0, ↓DL.dFn, ↓DL.cIntB, ↓DL.dFnK, ↓DL.dIs, ↓DL.dSl, ↓DL.dNoP, ↓DL.dPart, ↓DL.dRev, ↓DL.dLst, ↓DL.dLstV, ↓DL.cListV, ↓DL.dDict, ↓DL.dPar, ↓DL.dPar3, ↓DL.tup2, ↓DL.tup3, ↓DL.tup4, ↓DL.tup5, ↓DL.tup22, ↓DL.tup12, ↓DL.hName, ↓DL.hSub, ↓DL.rI2, ↓DL.rSubD, ↓DL.rMulD, ↓DL.rMulX, ↓DL.rDivF, ↓DL.rDivD, ↓DL.rModD, ↓DL.rPowD, ↓DL.rLtD, ↓DL.rLeD, ↓DL.rGtD, ↓DL.rGeD, ↓DL.rAddD, ↓DL.ixt_0, ↓DL.ixt_1, ↓DL.ixt_2, ↓DL.ixt_3, ↓DL.ixt_4, ↓DL.ixl_0, ↓DL.ixl_1, ↓DL.ixl_2, ↓DL.ixl_3, ↓DL.ixl_4, ↓DL.rEqV, ↓DL.rNeV, ↓DL.rSlD, ↓DL.cLen, ↓DL.cAbs, ↓DL.cInt, ↓DL.cStrI, ↓DL.cDivmod, ↓DL.cMin, ↓DL.cMax, ↓DL.cGcd, ↓DL.cLcm, ↓DL.cAll, ↓DL.cRepr, ↓DL.cReprX, ↓DL.cList, ↓DL.cTuple, ↓DL.rC1, ↓DL.rC2, ↓DL.dNever, ↓DL.dIter, ↓DL.dRng1, ↓DL.dRng2, ↓DL.dYes,
  ↓DL.frz_d, ↓DL.var_zero, ↓DL.var_succ, ↓DL.var_set, ↓DL.var_ne, DL.own_some, DL.no_own2, DL.eqv_int, DL.sh_int, DL.sh_bool, DL.kit_int, DL.kit_bool, DL.kit_tuple, DL.kit_str, DL.is_int, DL.is_bool, DL.is_tuple, DL.is_str, DL.pures_nil, DL.pures_cons, Option.map_some, List.length_cons, List.length_nil, List.length_set, List.map_cons, List.map_nil, DL.pick, List.filterMap_cons, List.filterMap_nil,
  true_and, and_true, ite_true, ite_false, if_true, if_false, reduceIte, reduceCtorEq, ne_eq, not_false_eq_true, Nat.reduceAdd, Nat.reduceLT, Nat.reduceEqDiff, decide_eq_true_eq, Bool.not_true, Bool.not_false, Bool.false_eq_true, eq_self])
namespace K42
open PySem PySem.Spec PyProof.Rows L2 DL LB
theorem r_is_row : ∀ ds st Q, sp_is_row ds st Q → b_is_row { nx := fun _ s' => Q (.d .none) s', rt := Q } (startD N_is_row ds) st := by
  intro ds st Q h
  unfold sp_is_row at h
  split at h
  · rename_i x lo hi
    walk_at "st"
    unfold b_is_row
    walk_at "go"
    cases x with
    | tuple xs =>
      simp only [isRow] at h
      walk_at "go"
      by_cases h1 : lo ≤ (xs.length : Int)
      · simpa [h1] using h
      · simpa [h1] using h
    | _ => simpa [isRow] using h
  · exact h.elim
theorem in_strs (w : Str) (ws : List Str) : ((ws.map PyData.str).any fun z => PyData.eqv z (.str w)) = ws.contains w := by
  induction ws with
  | nil => rfl
  | cons a r ih =>
    rw [List.map_cons, List.any_cons, ih, List.contains_cons]
    congr 1
    show (a == w) = (w == a)
    rw [Bool.eq_iff_iff, beq_iff_eq, beq_iff_eq]
    exact eq_comm
theorem rin_strs {neg : Bool} {w : Str} {ws : List Str} {st : Sto} {Q : Kd} (h : Q (Bo (neg != ws.contains w)) st) : rInV neg (.d (.str w)) (.d (.tuple (ws.map PyData.str))) st Q := by
  refine ⟨rfl, ?_, ?_⟩
  · rw [List.all_map]
    exact List.all_eq_true.mpr fun _ _ => rfl
  · rw [in_strs]
    exact h
theorem r_is_name : ∀ ds st Q, sp_is_name ds st Q → b_is_name { nx := fun _ s' => Q (.d .none) s', rt := Q } (startD N_is_name ds) st := by
  rintro ds st Q ⟨x, rfl, k⟩
  walk_at "st"
  unfold b_is_name
  walk_at "go"
  cases x with
  | str c =>
    dsimp only
    rw [if_pos rfl]
    refine rin_strs (ws := nms) ?_
    walk_at "go"
    simpa [isNm] using k
  | _ => exact k
theorem r_any : ∀ ds st Q, sp_any ds st Q → b_any { nx := fun _ s' => Q (.d .none) s', rt := Q } (startD N_any ds) st := by
  intro ds st Q h
  unfold sp_any at h
  split at h
  · rename_i p xs
    obtain ⟨h0, h1, n, ys, hst, hy, hn, k⟩ := h
    refine ⟨_, rfl, _, rfl, _, rfl, by omega, by omega, n, ys, hst, hy, hn, ?_⟩
    rintro _ ys' ⟨i, rfl, i0, i1⟩ hy'
    have hlt : i.toNat < xs.length := by omega
    refine ⟨xs[i.toNat], ?_, .inl (k _ ys' ⟨_, rfl, List.getElem_mem hlt⟩ hy')⟩
    have e1 : ((i.toNat : Nat) : Int) = i := Int.toNat_of_nonneg i0
    have e2 := atI_nat (xs := xs) (j := i.toNat) (List.getElem?_eq_getElem hlt)
    rw [e1] at e2
    exact e2
  · exact h.elim
theorem bn1 (v : Int) : B 40 (v % 2147483579) := by
  have t0 := Int.emod_nonneg v (show (2147483579 : Int) ≠ 0 by decide)
  have t1 := Int.emod_lt_of_pos v (show (0 : Int) < 2147483579 by decide)
  unfold B
  omega
theorem bn2 (s : Int) : B 40 (s % 4999 + 43013) := by
  have t0 := Int.emod_nonneg s (show (4999 : Int) ≠ 0 by decide)
  have t1 := Int.emod_lt_of_pos s (show (0 : Int) < 4999 by decide)
  unfold B
  omega
theorem r_dip : ∀ ds st Q, sp_dip ds st Q → b_dip { nx := fun _ s' => Q (.d .none) s', rt := Q } (startD N_dip ds) st := by
  intro ds st Q h
  unfold sp_dip at h
  split at h
  · rename_i p m
    obtain ⟨hm, hm2, n, xs, hst, ⟨x, y, z, rfl, h1, h2, h3, h4⟩, hn, k⟩ := h
    refine ⟨_, rfl, _, _, hst, rfl, trivial, ?_⟩
    show if decide (0 < x) = true then _ else _
    by_cases hx : 0 < x
    · rw [if_pos (decide_eq_true hx)]
      refine ⟨_, rfl, _, _, hst, rfl, _, rfl, small_div hm hm2, .inl ⟨rfl, _, rfl, _, 0, hst, rfl, rfl, _, rfl, .inl ?_⟩⟩
      exact k _ _ ⟨_, rfl, Int.emod_nonneg _ (by omega), Int.emod_lt_of_pos _ hm⟩ ⟨_, y, z, rfl, h1, h2, h3, by omega⟩
    · rw [if_neg (by simpa using hx)]
      have hz : 0 ≤ z + 1 := by omega
      refine ⟨_, rfl, _, _, hst, rfl, .inl ⟨_, rfl, _, 2, hst, rfl, ?_⟩⟩
      have e1 : (put st p ([I x, I y, I z].set 2 (I (z + 1)))) p = some [I x, I y, I (z + 1)] := put_same
      have bz : B 64 (z + 1) := by
        unfold B
        omega
      refine ⟨_, rfl, _, _, e1, rfl, _, rfl, _, _, e1, rfl, mulW (a := 20) (b := 64) (by unfold B; decide) bz (by decide) (by decide) (by decide), ⟨trivial, (show (0 : Int) < 2147483579 by decide), .inl ?_⟩⟩
      refine ⟨_, rfl, _, rfl, trivial, (show (0 : Int) < 4999 by decide), ?_⟩
      refine ⟨mulW (a := 40) (b := 40) (bn1 _) (bn2 _) (by decide) (by decide) (by decide), ?_⟩
      refine ⟨_, rfl, _, _, e1, rfl, mulW (a := 20) (b := 64) (by unfold B; decide) bz (by decide) (by decide) (by decide), trivial, (show (0 : Int) < 2147483579 by decide), .inl ?_⟩
      refine ⟨_, rfl, _, 1, e1, rfl, ?_⟩
      refine ⟨_, rfl, _, _, put_same, rfl, wide_div (b := 20) (by decide) (by decide) (by decide) (by decide), trivial, _, rfl, hm, .inl ?_⟩
      rw [put_put]
      exact k _ _ ⟨_, rfl, Int.emod_nonneg _ (by omega), Int.emod_lt_of_pos _ hm⟩ ⟨x, _, z + 1, rfl, Int.emod_nonneg _ (by decide), Int.lt_trans (Int.emod_lt_of_pos _ (by decide)) (by decide), hz, by omega⟩
  · exact h.elim
theorem r_spring : ∀ ds st Q, sp_spring ds st Q → b_spring { nx := fun _ s' => Q (.d .none) s', rt := Q } (startD N_spring ds) st := by
  intro ds st Q h
  unfold sp_spring at h
  split at h
  · rename_i ns
    obtain ⟨hl, k⟩ := h
    walk_at "st"
    refine .inl ?_
    refine ⟨_, rfl, ?_⟩
    refine ⟨fun _ e' st' => st' = st ∧ ∃ (m : Int) (c : Option D), e' = [some (.scr ns), some (I m), c, none] ∧ 0 ≤ m ∧ m < 2147483629, ⟨rfl, 7121, none, rfl, by omega, by omega⟩, ?_⟩
    rintro i e' st' ⟨rfl, m, c, rfl, m0, m1⟩
    refine ⟨(fun a ds z => nomatch z), fun _ => ?_, fun d hd => ?_⟩
    · have own : ∃ o : Int, ∀ (K : D → Sto → Prop), K (I o) st' → (dIf (dTst (dBin rGtD (dCall cLen (dCons (dVar 0) dNil)) (dC (.int 0)))) (dCall cInt (dCons (dBin rIxD (dVar 0) (dC (.int 0))) dNil)) (dC (.int 0))) [some (.scr ns), some (I m), c, none] st' K := by
        cases ns with
        | nil =>
          refine ⟨0, fun K hK => ?_⟩
          exact ⟨_, rfl, _, rfl, trivial, hK⟩
        | cons v r =>
          refine ⟨v, fun K hK => ?_⟩
          refine ⟨_, rfl, _, rfl, trivial, ?_⟩
          show if decide (0 < ((((v :: r).map fun n => D.d (.int n))).length : Int)) = true then _ else _
          rw [if_pos (decide_eq_true (by simp))]
          refine ⟨_, rfl, _, D.d (.int v), rfl, ?_, trivial, hK⟩
          exact atI_nat (j := 0) rfl
      obtain ⟨o, ho⟩ := own
      refine ho _ (.inl ?_)
      unfold b_spring_4
      walk_at "go"
      have fin : ∀ v w : Int, 0 ≤ w → w < 2147483629 → mkL [D.d (.int v), D.d (.int w), D.d (.int 0)] st' (frz Q) := fun v w h2 h3 => .inr fun p hp => .inl (k p _ hp ⟨v, w, 0, rfl, h2, h3, by omega, by omega⟩)
      have three : 3 ≤ sizeLine := by decide
      by_cases hneg : o < 0
      · rw [if_pos hneg]
        exact ⟨three, fin _ _ m0 m1⟩
      · rw [if_neg hneg]
        refine ⟨⟨by decide, by decide, by decide⟩, ?_⟩
        split
        · exact ⟨three, fin _ _ m0 m1⟩
        · exact ⟨three, fin _ _ m0 m1⟩
    · have hd' : (((cutP ns none (some 63)).map PyData.int).map D.d)[i]? = some d := hd
      rw [List.getElem?_map, List.getElem?_map] at hd'
      cases hc : (cutP ns none (some 63))[i]? with
      | none =>
        rw [hc] at hd'
        cases hd'
      | some v =>
        rw [hc] at hd'
        cases hd'
        show (dAsg _ _) _ _ _
        walk_at "go"
        refine ⟨mulW (a := 40) (b := 40) (mixB m0 m1) (by unfold B; decide) (by decide) (by decide) (by decide), by decide, by decide, _, some (D.d (.int v)), rfl, Int.emod_nonneg _ (by decide), Int.lt_trans (Int.emod_lt_of_pos _ (by decide)) (by decide)⟩
  · exact h.elim
end K42
namespace K42
open PySem PySem.Spec PyProof.Rows L2 DL LB
theorem row_false {x : PyData} (h : ∀ w rest, x = .tuple (.str w :: rest) → rest.length > 2) (n : Nat) : pickOk n x = false := by
  cases n with
  | zero => rfl
  | succ n =>
    unfold pickOk
    split
    · rename_i w rest
      rw [if_pos (h w rest rfl)]
    · rfl
def o1 (n : Nat) (rest : List PyData) : Bool := match rest with
  | [y] => pickOk n y
  | _ => false
theorem r_is_pick_form (n : Nat) (self : SpD) (hs : ∀ m, n = m + 1 → ∀ ds st Q, sp_is_pick_formK m ds st Q → self ds st Q) : ∀ ds st Q, sp_is_pick_formK n ds st Q → b_is_pick_form self { nx := fun _ s' => Q (.d .none) s', rt := Q } (startD N_is_pick_form ds) st := by
  rintro ds st Q ⟨x, rfl, k⟩
  walk_at "st"
  unfold b_is_pick_form b_is_pick_form_1 b_is_pick_form_2 b_is_pick_form_3 b_is_pick_form_4 b_is_pick_form_5 b_is_pick_form_6
  cases n with
  | zero => 
    (first | walk_at "go" | skip)
    exact k
  | succ n =>
    have hs := hs n rfl
    (first | walk_at "go" | skip)
    rw [if_neg (by omega)]
    show if (!isRow 1 3 x) = true then _ else _
    by_cases hr : isRow 1 3 x = true
    · rw [hr, if_neg (by decide)]
      cases x with
      | tuple xs =>
        cases xs with
        | nil => simp [isRow] at hr
        | cons a rest =>
          have hl : ¬ rest.length > 2 := by
            have := (Bool.and_eq_true _ _ ▸ hr).2
            have := of_decide_eq_true this
            simp only [List.length_cons] at this
            omega
          (first | walk_at "go" | skip)
          cases a with
          | str w =>
            unfold pickOk at k
            dsimp only at k ⊢
            rw [if_neg hl] at k
            rw [if_neg (by decide)]
            by_cases e1 : w = "all"
            · rw [if_pos e1]
              rw [if_pos e1] at k
              have e : decide (((rest.length + 1 : Nat) : Int) = 1) = decide (rest.length = 0) := by
                rw [Bool.eq_iff_iff, decide_eq_true_iff, decide_eq_true_iff]
                omega
              rw [e]
              exact k
            · rw [if_neg e1]
              rw [if_neg e1] at k
              by_cases e2 : w = "name"
              · rw [if_pos e2]
                rw [if_pos e2] at k
                match rest with
                | [] => exact k
                | [c] =>
                  (first | walk_at "go" | skip)
                  exact ⟨_, rfl, .inl k⟩
                | a :: b :: c =>
                  rw [if_neg (by simp only [List.length_cons]; omega)]
                  exact k
              · rw [if_neg e2]
                rw [if_neg e2] at k
                (first | walk_at "go" | skip)
                refine rin_strs (ws := ["closure", "inner", "rim"]) ?_
                (first | walk_at "go" | skip)
                have en : ((n + 1 : Nat) : Int) - 1 = (n : Int) := by omega
                rw [en]
                have one : Q (Bo (o1 n rest)) st → (if ((rest.length + 1 : Nat) : Int) = 2 then (rIxD (D.d (PyData.tuple (PyData.str w :: rest))) (D.d (PyData.int 1)) st fun x st1 => self [x, D.d (PyData.int n)] st1 (frz Q)) else Q (D.d (PyData.bool false)) st) := by
                  intro k
                  match rest with
                  | [] => exact k
                  | [y] =>
                    rw [if_pos (by rfl)]
                    exact ⟨y, rfl, hs _ _ _ ⟨y, rfl, .inl k⟩⟩
                  | a :: b :: c =>
                    rw [if_neg (by simp only [List.length_cons]; omega)]
                    exact k
                by_cases c1 : (["closure", "inner", "rim"] : List Str).contains w = true
                · have : w ∈ ones := by
                    simp only [List.contains_eq_mem, decide_eq_true_eq, List.mem_cons, List.mem_nil_iff, or_false] at c1
                    rcases c1 with rfl | rfl | rfl <;> decide
                  rw [if_pos this] at k
                  rw [c1, if_pos (by decide)]
                  exact one k
                · have c1' : (["closure", "inner", "rim"] : List Str).contains w = false := by simpa using c1
                  rw [c1', if_neg (by decide)]
                  by_cases c2 : w = "not"
                  · have : w ∈ ones := by rw [c2]; decide
                    rw [if_pos this] at k
                    rw [if_pos c2]
                    exact one k
                  · have c3 : w ∉ ones := by
                      intro h
                      simp only [ones, List.mem_cons, List.mem_nil_iff, or_false] at h
                      rcases h with h | h | h | h
                      · exact c2 h
                      · rw [h] at c1'; exact absurd c1' (by decide)
                      · rw [h] at c1'; exact absurd c1' (by decide)
                      · rw [h] at c1'; exact absurd c1' (by decide)
                    rw [if_neg c2]
                    rw [if_neg c3] at k
                    refine rin_strs (ws := twos) ?_
                    (first | walk_at "go" | skip)
                    by_cases c4 : w ∈ twos
                    · rw [if_pos c4] at k
                      have : twos.contains w = true := by simpa using c4
                      rw [this, if_neg (by decide)]
                      match rest, hl with
                      | [], _ => exact k
                      | [y], _ => exact k
                      | [y, z], _ =>
                        have k : Q (Bo (pickOk n y && pickOk n z)) st := k
                        rw [if_neg (by simp)]
                        refine ⟨y, rfl, hs _ _ _ ⟨y, rfl, ?_⟩⟩
                        show if pickOk n y = true then _ else _
                        cases hp : pickOk n y
                        · rw [if_neg (by decide)]
                          rw [hp] at k
                          exact k
                        · rw [if_pos rfl]
                          rw [hp] at k
                          exact ⟨z, rfl, hs _ _ _ ⟨z, rfl, .inl k⟩⟩
                      | a :: b :: c :: d, hl => exact absurd (by simp) hl
                    · rw [if_neg c4] at k
                      have : twos.contains w = false := by simpa using c4
                      rw [this, if_pos (by decide)]
                      exact k
          | _ => exact k
      | _ => simp [isRow] at hr
    · have e : isRow 1 3 x = false := by simpa using hr
      rw [e, if_pos (by decide)]
      rw [row_false (fun w rest hx => ?_) (n + 1)] at k
      · exact k
      · subst hx
        by_cases h3 : rest.length > 2
        · exact h3
        · exfalso
          apply hr
          show (decide ((1 : Int) ≤ ((PyData.str w :: rest).length : Int)) && decide (((PyData.str w :: rest).length : Int) ≤ 3)) = true
          rw [Bool.and_eq_true, decide_eq_true_iff, decide_eq_true_iff, List.length_cons]
          omega
theorem r_is_pick : ∀ ds st Q, sp_is_pick ds st Q → b_is_pick { nx := fun _ s' => Q (.d .none) s', rt := Q } (startD N_is_pick ds) st := by
  rintro ds st Q ⟨x, rfl, k⟩
  walk_at "st"
  unfold b_is_pick
  exact ⟨_, rfl, x, rfl, .inl k⟩
end K42
namespace K42
open PySem PySem.Spec PyProof.Rows L2 DL LB
theorem deep_other {x : PyData} (h : ∀ w rest, x ≠ .tuple (.str w :: rest)) (n : Nat) : deepF n x = 0 := by
  cases n with
  | zero => rfl
  | succ n =>
    unfold deepF
    split
    · rename_i w rest
      exact absurd rfl (h w rest)
    · rfl
theorem deep_end {n : Nat} {self : SpD} (hs : ∀ ds st Q, sp_deepK n ds st Q → self ds st Q) {x w m : Option D} {rest : List PyData} (hy : ∀ y ∈ rest, Nst n y) (h1 : 0 < rest.length) (h2 : rest.length ≤ 2) {st : Sto} {Q : Kd} {nx : Ed → Sto → Prop}
    (k0 : (0 : Int) ∈ rest.map (deepF n) → Q (I 0) st) (k1 : (0 : Int) ∉ rest.map (deepF n) → ∀ m, m ∈ rest.map (deepF n) → (∀ y ∈ rest.map (deepF n), y ≤ m) → Q (I (1 + m)) st) :
    dSeq (b_deep_7 self) (b_deep_8 self) { nx := nx, rt := Q } [x, w, some (.d (.tuple rest)), m, none, none] st := by
  refine lcV_pure (rest.map D.d) (fun d => match d with | .d y => .int (deepF n y) | _ => .none) (fun R h => ⟨_, rfl, h⟩) (by rw [List.length_map]; exact Nat.lt_of_le_of_lt h2 (by decide)) (fun d hd K hK => ?_) ?_
  · obtain ⟨y, hy', rfl⟩ := List.mem_map.mp hd
    exact ⟨_, rfl, hs _ _ _ ⟨y, rfl, hy y hy', hK⟩⟩
  · have e : (rest.map D.d).map (fun d => match d with | .d y => .int (deepF n y) | _ => .none) = (rest.map (deepF n)).map PyData.int := by
      rw [List.map_map, List.map_map]
      rfl
    rw [e]
    generalize hns : rest.map (deepF n) = ns at k0 k1
    refine .inl ?_
    have hl : 0 < ns.length := by rw [← hns, List.length_map]; exact h1
    refine ⟨_, rfl, ?_⟩
    refine rin_intsL ?_
    show if (false != ns.contains 0) = true then _ else _
    by_cases h0 : (0 : Int) ∈ ns
    · have : ns.contains 0 = true := by simpa using h0
      rw [this, if_pos (by decide)]
      exact .inl (k0 h0)
    · have : ns.contains 0 = false := by simpa using h0
      rw [this, if_neg (by decide)]
      refine ⟨_, rfl, ns, ?_, hl, fun m hm hy => .inl (k1 h0 m hm hy)⟩
      show some ((ns.map PyData.int).map D.d) = _
      rw [List.map_map]
      rfl
theorem r_deep (n : Nat) (self : SpD) (hs : ∀ m, n = m + 1 → ∀ ds st Q, sp_deepK m ds st Q → self ds st Q) : ∀ ds st Q, sp_deepK n ds st Q → b_deep self { nx := fun _ s' => Q (.d .none) s', rt := Q } (startD N_deep ds) st := by
  rintro ds st Q ⟨x, rfl, hx, k⟩
  walk_at "st"
  unfold b_deep b_deep_1 b_deep_2
  (first | walk_at "go" | skip)
  cases x with
  | tuple xs =>
    obtain ⟨n, rfl, hy⟩ := nst_tup hx
    have hs := hs n rfl
    cases xs with
    | nil =>
      rw [deep_other (fun w rest z => by cases z)] at k
      simpa using k
    | cons a rest =>
      have l0 : ¬ (((rest.length + 1 : Nat) : Int) = 0) := by omega
      cases a with
      | str w =>
        (first | walk_at "go" | skip)
        rw [if_neg l0]
        rw [cut_tail]
        unfold b_deep_3 b_deep_4 b_deep_5 b_deep_6
        (first | walk_at "go" | skip)
        unfold deepF at k
        dsimp only at k
        by_cases e1 : w = "name"
        · rw [if_pos e1]
          rw [if_pos e1] at k
          match rest with
          | [] => exact k
          | [c] =>
            rw [if_pos (by rfl)]
            have k : Q (I (if isNm c = true then 1 else 0)) st := k
            refine ⟨c, rfl, (fun a z => nomatch z), ?_⟩
            rw [is_str]
            cases c with
            | str s =>
              rw [if_pos rfl]
              refine ⟨_, rfl, big_ok (by decide), rin_strs (ws := nms) ?_⟩
              have e : (false != nms.contains s) = isNm (.str s) := by simp [isNm]
              rw [e]
              exact k
            | _ => exact k
          | a :: b :: c =>
            rw [if_neg (by simp only [List.length_cons]; omega)]
            exact k
        · rw [if_neg e1]
          rw [if_neg e1] at k
          by_cases e2 : w = "all"
          · rw [if_pos e2]
            rw [if_pos e2] at k
            match rest with
            | [] => exact k
            | a :: b =>
              rw [if_neg (by simp only [List.length_cons]; omega)]
              exact k
          · rw [if_neg e2]
            rw [if_neg e2] at k
            refine ⟨big_ok (by decide), rin_strs (ws := ones) ?_⟩
            show if (false != ones.contains w) = true then _ else _
            by_cases e3 : w ∈ ones
            · have c3 : ones.contains w = true := by simpa using e3
              rw [if_pos e3] at k
              rw [c3, if_pos (by decide), if_neg (by decide)]
              match rest, hy with
              | [], _ => exact k
              | [y], hy =>
                have k : Q (I (if deepF n y = 0 then 0 else 1 + deepF n y)) st := k
                rw [if_neg (by simp)]
                refine deep_end hs (fun z hz => hy z (by simp at hz; simp [hz])) (by simp) (by simp) (fun h0 => ?_) (fun h0 m hm hle => ?_)
                · have : deepF n y = 0 := (List.mem_singleton.mp h0).symm
                  rw [if_pos this] at k
                  exact k
                · have : deepF n y ≠ 0 := fun z => h0 (by simp [z])
                  rw [if_neg this] at k
                  rw [List.mem_singleton.mp hm]
                  exact k
              | a :: b :: c, _ =>
                rw [if_pos (by simp only [List.length_cons, Bool.not_eq_true', decide_eq_false_iff_not]; omega)]
                exact k
            · have c3 : ones.contains w = false := by simpa using e3
              rw [if_neg e3] at k
              rw [c3, if_neg (by decide)]
              (first | walk_at "go" | skip)
              refine ⟨big_ok (by decide), rin_strs (ws := twos) ?_⟩
              show if (false != twos.contains w) = true then _ else _
              by_cases e4 : w ∈ twos
              · have c4 : twos.contains w = true := by simpa using e4
                rw [if_pos e4] at k
                rw [c4, if_pos (by decide), if_neg (by decide)]
                match rest, hy with
                | [], _ => exact k
                | [y], _ => exact k
                | [y, z], hy =>
                  have k : Q (I (if deepF n y = 0 ∨ deepF n z = 0 then 0 else 1 + (if deepF n y ≤ deepF n z then deepF n z else deepF n y))) st := k
                  rw [if_neg (by simp)]
                  refine deep_end hs (fun v hv => hy v (by simp at hv; simp [hv])) (by simp) (by simp) (fun h0 => ?_) (fun h0 m hm hle => ?_)
                  · have : deepF n y = 0 ∨ deepF n z = 0 := by
                      simp at h0
                      exact h0.imp Eq.symm Eq.symm
                    rw [if_pos this] at k
                    exact k
                  · have : ¬ (deepF n y = 0 ∨ deepF n z = 0) := fun q => h0 (by rcases q with q | q <;> simp [q])
                    rw [if_neg this] at k
                    have l1 := hle (deepF n y) (by simp)
                    have l2 := hle (deepF n z) (by simp)
                    have em : m = (if deepF n y ≤ deepF n z then deepF n z else deepF n y) := by
                      simp at hm
                      split <;> omega
                    rw [em]
                    exact k
                | a :: b :: c :: d, _ =>
                  rw [if_pos (by simp only [List.length_cons, Bool.not_eq_true', decide_eq_false_iff_not]; omega)]
                  exact k
              · have c4 : twos.contains w = false := by simpa using e4
                rw [if_neg e4] at k
                rw [c4, if_neg (by decide)]
                exact k
      | _ =>
        rw [deep_other (fun w rest z => by cases z)] at k
        (first | walk_at "go" | skip)
        rw [if_neg l0]
        exact k
  | _ =>
    rw [deep_other (fun w rest z => by cases z)] at k
    simpa using k
end K42
namespace K42
open PySem PySem.Spec PyProof.Rows L2 DL LB
theorem r_pick (n : Nat) (self : SpD) (hs : ∀ m, n = m + 1 → ∀ ds st Q, sp_pickK m ds st Q → self ds st Q) : ∀ ds st Q, sp_pickK n ds st Q → b_pick self { nx := fun _ s' => Q (.d .none) s', rt := Q } (startD N_pick ds) st := by
  rintro ds st Q ⟨p, j, rfl, hj, m, ys, hst, hy, hm, k⟩
  have p2 : 1 ≤ 2 ^ n := Nat.one_le_two_pow
  unfold b_pick b_pick_1
  refine ⟨_, rfl, trivial, ?_⟩
  show (if decide ((j : Int) + 1 < 2) = true then _ else _)
  by_cases h0 : j = 0
  · rw [if_pos (decide_eq_true (by omega))]
    refine ⟨_, rfl, by decide, by decide, m, ys, hst, hy, by omega, ?_⟩
    rintro _ zs ⟨i, rfl, i0, i1⟩ hz
    refine ⟨trivial, ?_⟩
    show if decide (0 < i) = true then _ else _
    split
    · refine ⟨_, rfl, by show 4 ≤ sizeLine; decide, by decide, by decide, m + 1, zs, put_same, hz, by omega, ?_⟩
      rintro _ ws ⟨x, rfl, hx⟩ hw
      rw [put_put]
      have hx : x ∈ nms.map PyData.str := hx
      obtain ⟨c, hc, rfl⟩ := List.mem_map.mp hx
      exact ⟨by show 2 ≤ sizeLine; decide, .inl (k _ ws ⟨_, rfl, .name hc⟩ (hw.mono (by omega)))⟩
    · exact ⟨by show 1 ≤ sizeLine; decide, .inl (k _ zs ⟨_, rfl, .all⟩ (hz.mono (by omega)))⟩
  · rw [if_neg (by rw [decide_eq_true_iff]; omega)]
    obtain ⟨n, rfl⟩ : ∃ n', n = n' + 1 := ⟨n - 1, by omega⟩
    have hs := hs n rfl
    have e2 : 2 ^ (n + 1) = 2 * 2 ^ n := by rw [Nat.pow_succ]; omega
    have p3 : 1 ≤ 2 ^ n := Nat.one_le_two_pow
    unfold b_pick_2 b_pick_3
    refine ⟨_, rfl, _, rfl, trivial, hs _ _ _ ⟨p, j - 1, ?_, by omega, m, ys, hst, hy, by omega, ?_⟩⟩
    · have : (j : Int) + 1 - 1 = ((j - 1 : Nat) : Int) + 1 := by omega
      rw [← this]
    rintro _ zs ⟨x, rfl, hx⟩ hz
    refine .inl ?_
    refine ⟨_, rfl, by decide, by decide, m + (6 * 2 ^ n - 4), zs, put_same, hz, by omega, ?_⟩
    rintro _ ws ⟨i, rfl, i0, i1⟩ hw
    rw [put_put]
    show if decide (i = 0) = true then _ else _
    split
    · refine ⟨_, rfl, by show 4 ≤ sizeLine; decide, by decide, by decide, _, ws, put_same, hw, by omega, ?_⟩
      rintro _ us ⟨y, rfl, hy'⟩ hu
      rw [put_put]
      have hy' : y ∈ ones.map PyData.str := hy'
      obtain ⟨c, hc, rfl⟩ := List.mem_map.mp hy'
      exact ⟨_, rfl, by show 2 ≤ sizeLine; decide, .inl (k _ us ⟨_, rfl, .one hc hx⟩ (hu.mono (by omega)))⟩
    · unfold b_pick_4 b_pick_5 b_pick_6
      have hmin : 0 < (if (3 : Int) < (j : Int) + 1 - 1 then (3 : Int) else (j : Int) + 1 - 1) ∧ (if (3 : Int) < (j : Int) + 1 - 1 then (3 : Int) else (j : Int) + 1 - 1) < 2 ^ 40 ∧ (if (3 : Int) < (j : Int) + 1 - 1 then (3 : Int) else (j : Int) + 1 - 1) ≤ j := by
        split <;> omega
      refine ⟨_, rfl, _, rfl, _, rfl, trivial, trivial, hmin.1, hmin.2.1, _, ws, put_same, hw, by omega, ?_⟩
      rintro _ us ⟨i2, rfl, i20, i21⟩ hu
      rw [put_put]
      refine hs _ _ _ ⟨p, i2.toNat, ?_, by omega, _, us, put_same, hu, by omega, ?_⟩
      · have : (1 : Int) + i2 = ((i2.toNat : Nat) : Int) + 1 := by omega
        rw [← this]
      rintro _ vs ⟨y, rfl, hyp⟩ hv
      rw [put_put]
      refine .inl ⟨_, rfl, by show 3 ≤ sizeLine; decide, by decide, by decide, _, vs, put_same, hv, by omega, ?_⟩
      rintro _ rs ⟨z, rfl, hz'⟩ hr
      rw [put_put]
      have hz' : z ∈ twos.map PyData.str := hz'
      obtain ⟨c, hc, rfl⟩ := List.mem_map.mp hz'
      refine .inl ⟨_, rfl, by decide, by decide, _, rs, put_same, hr, by omega, ?_⟩
      rintro _ qs ⟨i3, rfl, i30, i31⟩ hq
      rw [put_put]
      show if decide (i3 = 0) = true then _ else _
      split
      · exact ⟨_, rfl, _, rfl, _, rfl, by show 3 ≤ sizeLine; decide, .inl (k _ qs ⟨_, rfl, .two hc hx hyp⟩ (hq.mono (by omega)))⟩
      · exact ⟨_, rfl, _, rfl, _, rfl, by show 3 ≤ sizeLine; decide, .inl (k _ qs ⟨_, rfl, .two hc hyp hx⟩ (hq.mono (by omega)))⟩
end K42
namespace K42
open PySem PySem.Spec PyProof.Rows L2 DL LB
def nstB : Nat → PyData → Bool
  | 0, x => match x with
    | .tuple _ => false
    | _ => true
  | n + 1, x => match x with
    | .tuple xs => xs.all (nstB n)
    | _ => true
theorem nst_of : ∀ {n : Nat} {x : PyData}, nstB n x = true → Nst n x := by
  intro n
  induction n with
  | zero =>
    intro x h xs z
    subst z
    simp [nstB] at h
  | succ n ih =>
    intro x h
    cases x with
    | tuple xs =>
      intro y hy
      exact ih (List.all_eq_true.mp h y hy)
    | _ => trivial
def oddL : List PyData := [.tuple [.str "all"], .tuple [.str "name", .str "D"], .none, .int 0, .bool true, .bool false, .str "", .str "A", .str "all", .str "name", .tuple [], .list [], .dict [], .tuple [.str "all", .tuple []], .list [.str "all"],
  .tuple [.str "name"], .tuple [.str "name", .str "E"], .tuple [.str "name", .str "a"], .tuple [.str "name", .str ""], .tuple [.str "name", .str "AB"], .tuple [.str "name", .str "A", .str "B"], .tuple [.str "A"],
  .tuple [.str "name", .tuple [.str "A"]], .tuple [.str "name", .list [.str "A"]], .tuple [.list [.str "name"], .str "A"], .tuple [.dict [], .str "A"], .tuple [.str "All"], .tuple [.tuple [.str "all"]], .tuple [.str "not"], .tuple [.str "both"],
  .tuple [.str "name", .int 1], .tuple [.str "name", .none], .tuple [.str "name", .bool true], .tuple [.int 1, .str "A"], .tuple [.none], .tuple [.str "rim", .str "A"], .tuple [.str "not", .str "all"], .tuple [.str "less", .int 0]]
theorem odd_nst : oddL.all (nstB 3) = true := by decide +kernel
theorem r_odd : ∀ ds st Q, sp_odd ds st Q → b_odd { nx := fun _ s' => Q (.d .none) s', rt := Q } (startD N_odd ds) st := by
  intro ds st Q h
  unfold sp_odd at h
  split at h
  · rename_i p
    obtain ⟨m, ys, hst, hy, hn, k⟩ := h
    walk_at "st"
    unfold b_odd b_odd_1 b_odd_2 b_odd_3 b_odd_4 b_odd_5
    (first | walk_at "go" | skip)
    simp only [DL.line_small, Nat.reduceLeDiff, true_and, List.length_append, List.length_cons, List.length_nil, Nat.reduceAdd]
    show sp_any [.own p, .d (.tuple oddL)] st (frz Q)
    refine ⟨by decide, by decide, m, ys, hst, hy, hn, ?_⟩
    rintro _ zs ⟨x, rfl, hx⟩ hz
    exact .inl (k _ zs ⟨x, rfl, nst_of (List.all_eq_true.mp odd_nst x hx)⟩ hz)
  · exact h.elim
end K42
namespace K42
open PySem PySem.Spec PyProof.Rows L2 DL LB
theorem len3 {n : Nat} {x : PyData} (h : Pk n x) : ∃ w r, x = .tuple (.str w :: r) ∧ r.length ≤ 2 := by
  cases h with
  | all => exact ⟨_, _, rfl, by decide⟩
  | name h => exact ⟨_, _, rfl, by simp⟩
  | one h a => exact ⟨_, _, rfl, by simp⟩
  | two h a b => exact ⟨_, _, rfl, by simp⟩
theorem nst_mem {n : Nat} {xs : List PyData} (h : Nst (n + 1) (.tuple xs)) : ∀ y ∈ xs, Nst n y := h
theorem nst_list {n : Nat} {xs : List PyData} : Nst n (.list xs) := by
  cases n with
  | zero => intro ys z; cases z
  | succ n => trivial
/-- what follows where the thing itself is bent -/
theorem bent_rest {n : Nat} {self : SpD} {p : Addr} {w : Str} {r : List PyData} (hr : r.length ≤ 2) (hx : Nst (n + 1) (.tuple (.str w :: r))) {st : Sto} {ys : List D} {m : Nat} {Q : Kd} {nx : Ed → Sto → Prop} (hst : st p = some ys) (hy : SprL ys m) (hm : m + 2 < 2 ^ 40)
    (k : ∀ y xs', Nst (n + 5) y → SprL xs' (m + 2) → Q (.d y) (put st p xs')) :
    dSeq (b_bent_2 self) (dSeq (b_bent_3 self) (dSeq (b_bent_4 self) (dSeq (b_bent_5 self) (dSeq (b_bent_6 self) (dSeq (b_bent_7 self) (dSeq (b_bent_8 self) (b_bent_9 self))))))) { nx := nx, rt := Q } [some (.own p), some (.d (.tuple (.str w :: r))), none, none, none] st := by
  have hl : (PyData.str w :: r).length ≤ 3 := by simpa using hr
  have hel : ∀ y ∈ (PyData.str w :: r), Nst (n + 4) y := fun y hy => (nst_mem hx y hy).mono (by omega)
  have sz : ∀ a b : Nat, a ≤ 3 → b ≤ 3 → a + b ≤ sizeLine := fun a b ha hb => big_ok (by omega)
  refine ⟨_, rfl, by decide, by decide, m, ys, hst, hy, by omega, ?_⟩
  rintro _ zs ⟨i, rfl, i0, i1⟩ hz
  refine .inl ?_
  have hz' := hz.mono (show m + 1 ≤ m + 2 by omega)
  refine ⟨_, rfl, ?_⟩
  show if decide (i = 0) = true then _ else _
  by_cases c0 : i = 0
  · rw [if_pos (decide_eq_true c0)]
    exact ⟨_, rfl, .inl (k _ zs nst_list hz')⟩
  rw [if_neg (by simpa using c0)]
  refine ⟨_, rfl, ?_⟩
  show if decide (i = 1) = true then _ else _
  by_cases c1 : i = 1
  · rw [if_pos (decide_eq_true c1)]
    refine ⟨_, rfl, ?_⟩
    show frz Q (.d (.tuple (cutP (.str w :: r) none (some (-1))))) _
    rw [cut_last]
    exact .inl (k _ zs (fun y hy => hel y (List.mem_of_mem_take hy)) hz')
  rw [if_neg (by simpa using c1)]
  refine ⟨_, rfl, ?_⟩
  show if decide (i = 2) = true then _ else _
  by_cases c2 : i = 2
  · rw [if_pos (decide_eq_true c2)]
    refine ⟨_, rfl, _, rfl, ?_⟩
    show _ + (cutP (PyData.str w :: r) (some (-1)) none).length ≤ _ ∧ frz Q (.d (.tuple (_ ++ cutP (PyData.str w :: r) (some (-1)) none))) _
    rw [cut_at_last]
    refine ⟨sz _ _ hl (by rw [List.length_drop]; omega), .inl (k _ zs (fun y hy => ?_) hz')⟩
    rcases List.mem_append.mp hy with hy | hy
    · exact hel y hy
    · exact hel y (List.mem_of_mem_drop hy)
  rw [if_neg (by simpa using c2)]
  refine ⟨_, rfl, ?_⟩
  show if decide (i = 3) = true then _ else _
  by_cases c3 : i = 3
  · rw [if_pos (decide_eq_true c3)]
    refine ⟨_, rfl, big_ok (by decide), big_ok (by decide), ?_⟩
    refine ⟨sz _ 1 hl (by decide), .inl (k _ zs (fun y hy => ?_) hz')⟩
    rcases List.mem_append.mp hy with hy | hy
    · exact hel y hy
    · rw [List.mem_singleton.mp hy]
      exact nst_of (n := n + 4) rfl
  rw [if_neg (by simpa using c3)]
  refine ⟨_, rfl, ?_⟩
  show if decide (i = 4) = true then _ else _
  by_cases c4 : i = 4
  · rw [if_pos (decide_eq_true c4)]
    refine ⟨_, rfl, big_ok (by simp), .inl (k _ zs (fun y hy => ?_) hz')⟩
    rw [List.mem_singleton.mp hy]
    exact hx.mono (by omega)
  rw [if_neg (by simpa using c4)]
  refine ⟨_, rfl, trivial, ?_⟩
  show if decide (i < 7) = true then _ else _
  by_cases c5 : i < 7
  · rw [if_pos (decide_eq_true c5)]
    refine ⟨big_ok (by decide), .inl ?_⟩
    refine ⟨_, rfl, _, rfl, by decide, by decide, m + 1, zs, put_same, hz, by omega, ?_⟩
    rintro _ ws ⟨y, rfl, hy'⟩ hw
    rw [put_put]
    refine ⟨big_ok (by simp), _, rfl, ?_⟩
    show 1 + (cutP (PyData.str w :: r) (some 1) none).length ≤ _ ∧ frz Q (.d (.tuple ([y] ++ cutP (PyData.str w :: r) (some 1) none))) _
    rw [cut_tail]
    refine ⟨sz 1 _ (by decide) (by omega), .inl (k _ ws (fun z hz2 => ?_) hw)⟩
    rcases List.mem_cons.mp hz2 with rfl | hz2
    · have hw' : (z ∈ (["not", "rim", "inner", "closure", "both", "either", "less", "all", "name", "Not", "pick", ""] : List Str).map PyData.str) := hy'
      obtain ⟨c, _, rfl⟩ := List.mem_map.mp hw'
      exact nst_str
    · exact hel z (List.mem_cons_of_mem _ hz2)
  · rw [if_neg (by simpa using c5)]
    refine ⟨_, rfl, m + 1, zs, put_same, hz, by omega, ?_⟩
    rintro _ ws ⟨y, rfl, hy'⟩ hw
    rw [put_put]
    exact .inl (k _ ws (hy'.mono (by omega)) hw)
theorem r_bent (n : Nat) (self : SpD) (hs : ∀ m, n = m + 1 → ∀ ds st Q, sp_bentK m ds st Q → self ds st Q) : ∀ ds st Q, sp_bentK n ds st Q → b_bent self { nx := fun _ s' => Q (.d .none) s', rt := Q } (startD N_bent ds) st := by
  rintro ds st Q ⟨p, x, rfl, hx, m, ys, hst, hy, hm, k⟩
  have hN := hx.nst
  obtain ⟨w, r, rfl, hr⟩ := len3 hx
  unfold b_bent b_bent_1
  have hsub : w = "name" ∨ r = [] ∨ ∃ m', n = m' + 1 ∧ ∀ y ∈ r, Pk (m' + 1) y := by
    cases hx with
    | all => exact .inr (.inl rfl)
    | name h => exact .inl rfl
    | one h a =>
      cases n with
      | zero => cases a
      | succ n =>
        refine .inr (.inr ⟨n, rfl, fun y hy => ?_⟩)
        rw [List.mem_singleton.mp hy]
        exact a
    | two h a b =>
      cases n with
      | zero => cases a
      | succ n =>
        refine .inr (.inr ⟨n, rfl, fun y hy => ?_⟩)
        rcases List.mem_cons.mp hy with rfl | hy
        · exact a
        · rw [List.mem_singleton.mp hy]
          exact b
  have rest0 := bent_rest (self := self) (nx := fun _ s' => Q (.d .none) s') hr hN hst hy (by omega) (Q := Q) (fun y xs' hy hx => k _ xs' ⟨y, rfl, hy⟩ (hx.mono (by omega)))
  refine ⟨_, rfl, .str w, atI_nat (j := 0) rfl, ?_⟩
  show if (!decide (w = "name")) = true then _ else _
  by_cases cn : w = "name"
  · rw [decide_eq_true cn, if_neg (by decide)]
    exact rest0
  rw [decide_eq_false cn, if_pos (by decide)]
  refine ⟨_, rfl, trivial, ?_⟩
  show if decide (1 < ((PyData.str w :: r).length : Int)) = true then _ else _
  have el : ((PyData.str w :: r).length : Int) = r.length + 1 := by simp
  by_cases cl : r = []
  · rw [if_neg (by rw [decide_eq_true_iff, el, cl]; decide)]
    exact rest0
  have hl : 0 < r.length := List.length_pos_iff.mpr cl
  rw [if_pos (by rw [decide_eq_true_iff, el]; omega)]
  refine ⟨_, rfl, by decide, by decide, m, ys, hst, hy, by omega, ?_⟩
  rintro _ zs ⟨i, rfl, i0, i1⟩ hz
  refine ⟨trivial, ?_⟩
  show if decide (0 < i) = true then _ else _
  by_cases ci : 0 < i
  · rw [if_pos (decide_eq_true ci)]
    obtain ⟨m', rfl, hp⟩ : ∃ m', n = m' + 1 ∧ ∀ y ∈ r, Pk (m' + 1) y := by
      rcases hsub with h | h | h
      · exact absurd h cn
      · exact absurd h cl
      · exact h
    have hs := hs m' rfl
    refine ⟨_, rfl, _, rfl, trivial, by rw [el]; omega, by rw [el]; omega, m + 1, zs, put_same, hz, by omega, ?_⟩
    rintro _ ws ⟨i2, rfl, i20, i21⟩ hw
    rw [el] at i21
    rw [put_put]
    have hlt : i2.toNat < r.length := by omega
    have e1 : (1 : Int) + i2 = ((i2.toNat + 1 : Nat) : Int) := by omega
    have hel : ∀ y ∈ (PyData.str w :: r), Nst (m' + 5) y := fun y hy => (nst_mem hN y hy).mono (by omega)
    refine .inl ⟨_, rfl, _, rfl, _, rfl, _, rfl, _, rfl, r[i2.toNat], ?_, ?_⟩
    · rw [e1]
      exact atI_nat (j := i2.toNat + 1) (by rw [List.getElem?_cons_succ, List.getElem?_eq_getElem hlt])
    refine hs _ _ _ ⟨p, r[i2.toNat], rfl, hp _ (List.getElem_mem hlt), m + 1 + 1, ws, put_same, hw, by omega, ?_⟩
    rintro _ us ⟨y, rfl, hy'⟩ hu
    rw [put_put, e1, cut_to (by simp only [List.length_cons]; omega)]
    refine ⟨big_ok (by simp), big_ok ?_, _, rfl, _, rfl, ?_⟩
    · rw [List.length_take, List.length_cons]
      simp only [List.length_cons, List.length_nil]
      omega
    have e2 : ((i2.toNat + 1 : Nat) : Int) + 1 = ((i2.toNat + 2 : Nat) : Int) := by omega
    show _ + (cutP (PyData.str w :: r) (some (((i2.toNat + 1 : Nat) : Int) + 1)) none).length ≤ _ ∧ frz Q (.d (.tuple (_ ++ cutP (PyData.str w :: r) (some (((i2.toNat + 1 : Nat) : Int) + 1)) none))) _
    rw [e2, cut_from (by simp only [List.length_cons]; omega)]
    refine ⟨big_ok ?_, .inl (k _ us ⟨_, rfl, fun z hz2 => ?_⟩ (hu.mono (by omega)))⟩
    · rw [List.length_append, List.length_take, List.length_drop]
      simp only [List.length_cons, List.length_nil]
      omega
    · rcases List.mem_append.mp hz2 with hz2 | hz2
      · rcases List.mem_append.mp hz2 with hz2 | hz2
        · exact hel z (List.mem_of_mem_take hz2)
        · rw [List.mem_singleton.mp hz2]
          exact hy'
      · exact hel z (List.mem_of_mem_drop hz2)
  · rw [if_neg (by simpa using ci)]
    refine bent_rest (self := self) (nx := fun _ s' => Q (.d .none) s') hr hN put_same hz (by omega) (Q := Q) (fun y xs' hy hx => ?_)
    rw [put_put]
    exact k _ xs' ⟨y, rfl, hy⟩ (hx.mono (by omega))
theorem r_thing : ∀ ds st Q, sp_thing ds st Q → b_thing { nx := fun _ s' => Q (.d .none) s', rt := Q } (startD N_thing ds) st := by
  rintro ds st Q ⟨p, rfl, m, ys, hst, hy, hm, k⟩
  unfold b_thing b_thing_1 b_thing_2 b_thing_3 b_thing_4
  refine ⟨_, rfl, by decide, by decide, m, ys, hst, hy, by omega, ?_⟩
  rintro _ zs ⟨i, rfl, i0, i1⟩ hz
  refine .inl ⟨_, rfl, ?_⟩
  show if decide (i = 0) = true then _ else _
  by_cases c0 : i = 0
  · rw [if_pos (decide_eq_true c0)]
    refine ⟨_, rfl, m + 1, zs, put_same, hz, by omega, ?_⟩
    rintro _ ws ⟨y, rfl, hy'⟩ hw
    rw [put_put]
    exact .inl (k _ ws ⟨_, rfl, hy'.mono (by omega)⟩ (hw.mono (by omega)))
  rw [if_neg (by simpa using c0)]
  refine ⟨_, rfl, _, rfl, big_ok (by decide), by decide, by decide, m + 1, zs, put_same, hz, by omega, ?_⟩
  rintro _ ws ⟨y, rfl, hy'⟩ hw
  rw [put_put]
  obtain ⟨j, hj, rfl⟩ : ∃ j : Nat, j ≤ 7 ∧ y = .int (j + 1) := by
    have h2 : y ∈ ([0, 1, 2, 3, 4, 5, 5, 5, 6, 6, 7] : List Nat).map fun (j : Nat) => PyData.int ((j : Int) + 1) := hy'
    obtain ⟨j, h3, rfl⟩ := List.mem_map.mp h2
    refine ⟨j, ?_, rfl⟩
    have : ∀ j ∈ ([0, 1, 2, 3, 4, 5, 5, 5, 6, 6, 7] : List Nat), j ≤ 7 := by decide
    exact this j h3
  refine ⟨p, j, rfl, hj, m + 1 + 1, ws, put_same, hw, by omega, ?_⟩
  rintro _ us ⟨x, rfl, hx⟩ hu
  rw [put_put]
  refine .inl ⟨_, rfl, trivial, ?_⟩
  show if decide (i < 4) = true then _ else _
  split
  · exact ⟨_, rfl, .inl (k _ us ⟨_, rfl, hx.nst.mono (by decide)⟩ (hu.mono (by omega)))⟩
  · refine ⟨_, rfl, _, rfl, p, x, rfl, hx, _, us, put_same, hu, by omega, ?_⟩
    rintro _ vs ⟨z, rfl, hz'⟩ hv
    rw [put_put]
    exact .inl (k _ vs ⟨_, rfl, hz'.mono (by decide)⟩ (hv.mono (by omega)))
end K42
namespace K42
open PySem PySem.Spec PyProof.Rows L2 DL LB
theorem repr_bool {b : Bool} {st : Sto} {Q : Kd} (h : Q (.d (.str (PyData.bool b).shown)) st) : cRepr [.d (.bool b)] st Q := by
  refine ⟨rfl, by cases b <;> rfl, ?_, ?_, h⟩
  · cases b <;> decide
  · cases b <;> decide
theorem shown_bool {a b : Bool} : decide ((PyData.bool a).shown = (PyData.bool b).shown) = decide (a = b) := by
  cases a <;> cases b <;> rfl
theorem r_law : ∀ ds st Q, sp_law ds st Q → b_law { nx := fun _ s' => Q (.d .none) s', rt := Q } (startD N_law ds) st := by
  intro ds st Q h
  unfold sp_law at h
  split at h
  · rename_i ns
    obtain ⟨hl, k⟩ := h
    unfold b_law b_law_1 b_law_2 b_law_3
    refine ⟨_, rfl, hl, fun p xs hp hx => .inl ?_⟩
    refine ⟨by decide, by decide, ?_⟩
    refine ⟨fun i e st' => i ≤ 3 ∧ ∃ (ys : List D) (c1 c2 c3 c4 : Option D), e = [some (.scr ns), some (.own p), c1, c2, c3, c4] ∧ st' p = some ys ∧ SprL ys (i * 3000), ⟨by decide, xs, none, none, none, none, rfl, put_same, hx⟩, ?_⟩
    rintro i e st' ⟨hi, ys, c1, c2, c3, c4, rfl, hst, hy⟩
    refine ⟨(fun a ds z => nomatch z), fun _ => .inl (k _), fun d hd => ?_⟩
    have hlt : i < 3 := by
      have := (List.getElem?_eq_some_iff.mp hd).1
      simpa using this
    refine ⟨_, rfl, p, rfl, i * 3000, ys, hst, hy, by omega, ?_⟩
    rintro _ zs ⟨x, rfl, hx⟩ hz
    refine .inl ⟨_, rfl, x, rfl, hx, trivial, ?_⟩
    have key := deep_pick 6 13 x hx
    -- both answers
    have last : ∀ (due : Bool), due = pickOk 6 x → (dSeq (dAsg (dIf (dTst (dBin rEqV (dFn0 sp_dip (dCons (dVar 1) (dCons (dC (.int 4)) dNil))) (dC (.int 0)))) (dFnK sp_is_pick [0] (dCons (dVar 3) dNil)) (dFn0 sp_is_pick (dCons (dVar 3) dNil))) (hName 5)) (dIfS (dTst (dBin rNeV (dCall cRepr (dCons (dVar 5) dNil)) (dCall cRepr (dCons (dVar 4) dNil)))) (dRet (dC (.bool false))) dNext))
        { nx := fun e' st'' => (fun i e st' => i ≤ 3 ∧ ∃ (ys : List D) (c1 c2 c3 c4 : Option D), e = [some (.scr ns), some (.own p), c1, c2, c3, c4] ∧ st' p = some ys ∧ SprL ys (i * 3000)) (i + 1) e' st'', rt := Q } [some (.scr ns), some (.own p), some d, some (.d x), some (Bo due), c4] (put st' p zs) := by
      rintro due rfl
      refine ⟨_, rfl, by decide, by decide, _, zs, put_same, hz, by omega, ?_⟩
      rintro _ ws ⟨v, rfl, v0, v1⟩ hw
      rw [put_put]
      have fin : (dIfS (dTst (dBin rNeV (dCall cRepr (dCons (dVar 5) dNil)) (dCall cRepr (dCons (dVar 4) dNil)))) (dRet (dC (.bool false))) dNext)
        { nx := fun e' st'' => (fun i e st' => i ≤ 3 ∧ ∃ (ys : List D) (c1 c2 c3 c4 : Option D), e = [some (.scr ns), some (.own p), c1, c2, c3, c4] ∧ st' p = some ys ∧ SprL ys (i * 3000)) (i + 1) e' st'', rt := Q } [some (.scr ns), some (.own p), some d, some (.d x), some (Bo (pickOk 6 x)), some (Bo (pickOk 6 x))] (put st' p ws) := by
        refine ⟨_, rfl, ?_⟩
        simp only [DL.dNil]
        refine repr_bool ?_
        refine ⟨_, rfl, ?_⟩
        simp only [DL.dNil]
        refine repr_bool ?_
        show if (!decide ((PyData.bool (pickOk 6 x)).shown = (PyData.bool (pickOk 6 x)).shown)) = true then _ else _
        rw [decide_eq_true rfl, if_neg (by decide)]
        exact ⟨by omega, ws, _, _, _, _, rfl, put_same, hw.mono (by omega)⟩
      show if decide (v = 0) = true then _ else _
      split
      · exact ⟨_, rfl, x, rfl, .inl fin⟩
      · exact ⟨_, rfl, x, rfl, .inl fin⟩
    show if decide (0 < deepF 13 x) = true then _ else _
    by_cases h0 : 0 < deepF 13 x
    · rw [if_pos (decide_eq_true h0)]
      refine ⟨trivial, .inl (last (decide (deepF 13 x ≤ 6)) ?_)⟩
      rw [Bool.eq_iff_iff, decide_eq_true_iff, ← key]
      exact ⟨fun q => ⟨h0, q⟩, fun q => q.2⟩
    · rw [if_neg (by simpa using h0)]
      refine .inl (last false ?_)
      cases hp : pickOk 6 x
      · rfl
      · exact absurd (key.mpr hp).1 h0
  · exact h.elim
end K42
namespace K42
open PySem PySem.Spec PyProof.Rows L2 DL LB
section
variable {P : Program} {w : World} {K : PySem.W.Frag} {mg : Str → Option Value} {base : Heap}
theorem t_is_row {k : Nat} (hk : 0 ≤ k) (T : Tx K mg)  (f : Addr) (cd : Value) (A : Around) (outer : List Env) (s : Shared) (H : Hp) (E : XK) (hG : A.guards = some []) (hr : Room k (A.deeper (envOfC "is_row" (defScope s_is_row) s.heap.objs.size f cd))) :
    PDSs (cxD P w K mg base N_is_row "is_row" (defScope s_is_row) f cd A outer s H E) (defBody s_is_row) b_is_row :=
  (pss_done (psd_ret (pd_and (pd_is rfl T.n_isinstance rfl T.n_tuple bt_tuple (pd 0) bt_isinstance) (pd_one (pd_chain o_le o_le (pd 1) (pd_callB c_len rfl T.n_len bt_len (pda_cons (pd 0) pda_nil)) (pd 2))))))
theorem t_is_name {k : Nat} (hk : 0 ≤ k) (T : Tx K mg)  (f : Addr) (cd : Value) (A : Around) (outer : List Env) (s : Shared) (H : Hp) (E : XK) (hG : A.guards = some []) (hr : Room k (A.deeper (envOfC "is_name" (defScope s_is_name) s.heap.objs.size f cd))) :
    PDSs (cxD P w K mg base N_is_name "is_name" (defScope s_is_name) f cd A outer s H E) (defBody s_is_name) b_is_name :=
  (pss_done (psd_ret (pd_and (pd_is rfl T.n_isinstance rfl T.n_str bt_str (pd 0) bt_isinstance) (pd_one (pd_cmp (o_in (u65 hr)) (pd 0) (pd_gtup (ts := ["A", "B", "C", "D"]) rfl T.g_NAMES) (by rfl))))))
theorem t_is_pick_form {k : Nat} (hk : 1 ≤ k) (T : Tx K mg) (c_is_row : Can P w K mg base 1 "is_row" s_is_row ["value", "low", "high"] sp_is_row) (c_is_name : Can P w K mg base 1 "is_name" s_is_name ["value"] sp_is_name) {sp_self : SpD} (c_self : CanD P w K mg base k "is_pick_form" [V.int 6] ["value", "deep"] sp_self) (f : Addr) (cd : Value) (A : Around) (outer : List Env) (s : Shared) (H : Hp) (E : XK) (hG : A.guards = some []) (hr : Room k (A.deeper (envOfC "is_pick_form" (defScope s_is_pick_form) s.heap.objs.size f cd))) :
    PDSs (cxD P w K mg base N_is_pick_form "is_pick_form" (defScope s_is_pick_form) f cd A outer s H E) (defBody s_is_pick_form) (b_is_pick_form sp_self) :=
  (pss_dcons (psd_if (pdt_w (pdw_or (pdt_cmp (o_eq hr.units) (pd 1) pd_int (nomark _)) (pdw_or (pdt_not (pdt_val (pd_call c_is_row hG (hr.mono (by omega)) rfl (pda_cons (pd 0) (pda_cons pd_int (pda_cons pd_int pda_nil)))))) (pdw_or1 (pdt_not (pdt_val (pd_is rfl T.n_isinstance rfl T.n_str bt_str (pd_ix (pd 0) pd_int (fun _ _ => rfl)) bt_isinstance))))))) (pss_done (psd_ret pd_bl)) pss_dnil) (pss_dcons (psd_if (pdt_cmp (o_eq hr.units) (pd_ix (pd 0) pd_int (fun _ _ => rfl)) pd_str (nomark _)) (pss_done (psd_ret (pd_cmp (o_eq hr.units) (pd_callB c_len rfl T.n_len bt_len (pda_cons (pd 0) pda_nil)) pd_int (nomark _)))) pss_dnil) (pss_dcons (psd_if (pdt_cmp (o_eq hr.units) (pd_ix (pd 0) pd_int (fun _ _ => rfl)) pd_str (nomark _)) (pss_done (psd_ret (pd_and (pd_cmp (o_eq hr.units) (pd_callB c_len rfl T.n_len bt_len (pda_cons (pd 0) pda_nil)) pd_int (nomark _)) (pd_one (pd_call c_is_name hG (hr.mono (by omega)) rfl (pda_cons (pd_ix (pd 0) pd_int (fun _ _ => rfl)) pda_nil)))))) pss_dnil) (pss_dcons (psd_if (pdt_w (pdw_or (pdt_cmp (o_in (u65 hr)) (pd_ix (pd 0) pd_int (fun _ _ => rfl)) (pd_gtup (ts := ["closure", "inner", "rim"]) rfl T.g_NEARBY) (by rfl)) (pdw_or1 (pdt_cmp (o_eq hr.units) (pd_ix (pd 0) pd_int (fun _ _ => rfl)) pd_str (nomark _))))) (pss_done (psd_ret (pd_and (pd_cmp (o_eq hr.units) (pd_callB c_len rfl T.n_len bt_len (pda_cons (pd 0) pda_nil)) pd_int (nomark _)) (pd_one (pd_callD c_self hG (hr.mono (by omega)) rfl (pda_cons (pd_ix (pd 0) pd_int (fun _ _ => rfl)) (pda_cons (pd_bin o_sub (pd 1) pd_int) pda_nil))))))) pss_dnil) (pss_dcons (psd_if (pdt_w (pdw_or (pdt_cmp (o_notin (u65 hr)) (pd_ix (pd 0) pd_int (fun _ _ => rfl)) (pd_gtup (ts := ["both", "either", "less"]) rfl T.g_PAIRED) (by rfl)) (pdw_or1 (pdt_cmp (o_ne hr.units) (pd_callB c_len rfl T.n_len bt_len (pda_cons (pd 0) pda_nil)) pd_int (nomark _))))) (pss_done (psd_ret pd_bl)) pss_dnil) (pss_done (psd_ret (pd_and (pd_callD c_self hG (hr.mono (by omega)) rfl (pda_cons (pd_ix (pd 0) pd_int (fun _ _ => rfl)) (pda_cons (pd_bin o_sub (pd 1) pd_int) pda_nil))) (pd_one (pd_callD c_self hG (hr.mono (by omega)) rfl (pda_cons (pd_ix (pd 0) pd_int (fun _ _ => rfl)) (pda_cons (pd_bin o_sub (pd 1) pd_int) pda_nil))))))))))))
theorem t_is_pick {k : Nat} (hk : 9 ≤ k) (T : Tx K mg) (c_is_pick_form : CanD P w K mg base 9 "is_pick_form" [V.int 6] ["value", "deep"] sp_is_pick_form) (f : Addr) (cd : Value) (A : Around) (outer : List Env) (s : Shared) (H : Hp) (E : XK) (hG : A.guards = some []) (hr : Room k (A.deeper (envOfC "is_pick" (defScope s_is_pick) s.heap.objs.size f cd))) :
    PDSs (cxD P w K mg base N_is_pick "is_pick" (defScope s_is_pick) f cd A outer s H E) (defBody s_is_pick) b_is_pick :=
  (pss_done (psd_ret (pd_callDd (dds := [.d (.int 6)]) c_is_pick_form (fun _ _ => (.cons (.d (.int 6)) .nil)) hG (hr.mono (by omega)) rfl (pda_cons (pd 0) pda_nil))))
theorem t_spring {k : Nat} (hk : 0 ≤ k) (T : Tx K mg)  (f : Addr) (cd : Value) (A : Around) (outer : List Env) (s : Shared) (H : Hp) (E : XK) (hG : A.guards = some []) (hr : Room k (A.deeper (envOfC "_law_spring" (defScope s_spring) s.heap.objs.size f cd))) :
    PDSs (cxD P w K mg base N_spring "_law_spring" (defScope s_spring) f cd A outer s H E) (defBody s_spring) b_spring :=
  (pss_dcons (psd_set (i := 1) sc_spring.nd rfl (by first | exact .inl rfl | exact .inr rfl) pd_int) (pss_dcons (psd_for PassesOwn.never rfl (pdi_seq (pd_sl (pd 0) pdo_none (pdo_some pd_int))) (pdg_name (i := 2) sc_spring.nd rfl (by first | exact .inl rfl | exact .inr rfl)) (pss_done (psd_set (i := 1) sc_spring.nd rfl (by first | exact .inl rfl | exact .inr rfl) (pd_bin o_mod (pd_callTy c_int rfl T.n_int bt_int (pda_cons (pd_bin o_add (pd_bin o_add (pd_bin o_mul (pd 1) pd_int) (pd_bin o_mod (pd_callTy c_int rfl T.n_int bt_int (pda_cons (pd 2) pda_nil)) pd_int)) pd_int) pda_nil)) pd_int)))) (pss_dcons (psd_set (i := 3) sc_spring.nd rfl (by first | exact .inl rfl | exact .inr rfl) (pd_if (pdt_cmp o_gt (pd_callB c_len rfl T.n_len bt_len (pda_cons (pd 0) pda_nil)) pd_int (nomark _)) (pd_callTy c_int rfl T.n_int bt_int (pda_cons (pd_ix (pd 0) pd_int (fun _ _ => rfl)) pda_nil)) pd_int)) (pss_done (psd_ret (pd_lst (pda_cons (pd_if (pdt_w (pdw_or (pdt_cmp o_lt (pd 3) pd_int (nomark _)) (pdw_or1 (pdt_cmp o_ge (pd 3) (pd_bin o_pow pd_int pd_int) (nomark _))))) (pd_callB c_abs rfl T.n_abs bt_abs (pda_cons (pd 3) pda_nil)) pd_int) (pda_cons (pd 1) (pda_cons pd_int pda_nil)))))))))
theorem t_dip {k : Nat} (hk : 0 ≤ k) (T : Tx K mg)  (f : Addr) (cd : Value) (A : Around) (outer : List Env) (s : Shared) (H : Hp) (E : XK) (hG : A.guards = some []) (hr : Room k (A.deeper (envOfC "_law_dip" (defScope s_dip) s.heap.objs.size f cd))) :
    PDSs (cxD P w K mg base N_dip "_law_dip" (defScope s_dip) f cd A outer s H E) (defBody s_dip) b_dip :=
  (pss_dcons (psd_if (pdt_cmp o_gt (pd_ix (pd 0) pd_int (fun _ _ => rfl)) pd_int (nomark _)) (pss_dcons (psd_asg (pd_callB c_divmod rfl T.n_divmod bt_divmod (pda_cons (pd_ix (pd 0) pd_int (fun _ _ => rfl)) (pda_cons (pd 1) pda_nil))) (pdg_tup (n := 2) rfl (pdgs_cons (pdg_sub (pd 0) pd_int) (pdgs_cons (pdg_name (i := 2) sc_dip.nd rfl (by first | exact .inl rfl | exact .inr rfl)) pdgs_nil)))) (pss_done (psd_ret (pd 2)))) pss_dnil) (pss_dcons (psd_asg (pd_bin o_add (pd_ix (pd 0) pd_int (fun _ _ => rfl)) pd_int) (pdg_sub (pd 0) pd_int)) (pss_dcons (psd_set (i := 3) sc_dip.nd rfl (by first | exact .inl rfl | exact .inr rfl) (pd_bin o_mod (pd_callTy c_int rfl T.n_int bt_int (pda_cons (pd_bin o_add (pd_ix (pd 0) pd_int (fun _ _ => rfl)) (pd_bin o_mul pd_int (pd_ix (pd 0) pd_int (fun _ _ => rfl)))) pda_nil)) pd_int)) (pss_dcons (psd_asg (pd_bin o_mod (pd_callTy c_int rfl T.n_int bt_int (pda_cons (pd_bin o_add (pd_bin o_mul (pd 3) (pd_bin o_add (pd_bin o_mod (pd_callTy c_int rfl T.n_int bt_int (pda_cons (pd 3) pda_nil)) pd_int) pd_int)) (pd_bin o_mul pd_int (pd_ix (pd 0) pd_int (fun _ _ => rfl)))) pda_nil)) pd_int) (pdg_sub (pd 0) pd_int)) (pss_done (psd_ret (pd_bin o_mod (pd_callTy c_int rfl T.n_int bt_int (pda_cons (pd_bin o_div (pd_ix (pd 0) pd_int (fun _ _ => rfl)) pd_int) pda_nil)) (pd 1))))))))
theorem t_any {k : Nat} (hk : 1 ≤ k) (T : Tx K mg) (c_dip : Can P w K mg base 1 "_law_dip" s_dip ["_law_well", "_law_many"] sp_dip) (f : Addr) (cd : Value) (A : Around) (outer : List Env) (s : Shared) (H : Hp) (E : XK) (hG : A.guards = some []) (hr : Room k (A.deeper (envOfC "_law_any" (defScope s_any) s.heap.objs.size f cd))) :
    PDSs (cxD P w K mg base N_any "_law_any" (defScope s_any) f cd A outer s H E) (defBody s_any) b_any :=
  (pss_done (psd_ret (pd_ix (pd 1) (pd_call c_dip hG (hr.mono (by omega)) rfl (pda_cons (pd 0) (pda_cons (pd_callB c_len rfl T.n_len bt_len (pda_cons (pd 1) pda_nil)) pda_nil))) (fun _ _ => rfl))))
theorem t_deep {k : Nat} (hk : 0 ≤ k) (T : Tx K mg) {sp_self : SpD} (c_self : Can P w K mg base k "_law_deep" s_deep ["_law_thing_here"] sp_self) (f : Addr) (cd : Value) (A : Around) (outer : List Env) (s : Shared) (H : Hp) (E : XK) (hG : A.guards = some []) (hr : Room k (A.deeper (envOfC "_law_deep" (defScope s_deep) s.heap.objs.size f cd))) :
    PDSs (cxD P w K mg base N_deep "_law_deep" (defScope s_deep) f cd A outer s H E) (defBody s_deep) (b_deep sp_self) :=
  (pss_dcons (psd_if (pdt_w (pdw_or (pdt_not (pdt_val (pd_is rfl T.n_isinstance rfl T.n_tuple bt_tuple (pd 0) bt_isinstance))) (pdw_or (pdt_cmp (o_eq hr.units) (pd_callB c_len rfl T.n_len bt_len (pda_cons (pd 0) pda_nil)) pd_int (nomark _)) (pdw_or1 (pdt_not (pdt_val (pd_is rfl T.n_isinstance rfl T.n_str bt_str (pd_ix (pd 0) pd_int (fun _ _ => rfl)) bt_isinstance))))))) (pss_done (psd_ret pd_int)) pss_dnil) (pss_dcons (psd_par (i := 1) (j := 2) rfl sc_deep.nd rfl rfl (by decide) rfl rfl (pda_cons (pd_ix (pd 0) pd_int (fun _ _ => rfl)) (pda_cons (pd_sl (pd 0) (pdo_some pd_int) pdo_none) pda_nil)) (by rfl)) (pss_dcons (psd_if (pdt_cmp (o_eq hr.units) (pd 1) pd_str (nomark _)) (pss_done (psd_ret (pd_callTy c_intB rfl T.n_int bt_int (pda_cons (pd_and (pd_cmp (o_eq hr.units) (pd_callB c_len rfl T.n_len bt_len (pda_cons (pd 2) pda_nil)) pd_int (nomark _)) (pd_and (pd_is rfl T.n_isinstance rfl T.n_str bt_str (pd_ix (pd 2) pd_int (fun _ _ => rfl)) bt_isinstance) (pd_one (pd_cmp (o_in (u65 hr)) (pd_ix (pd 2) pd_int (fun _ _ => rfl)) (pd_tup (pda_cons pd_str (pda_cons pd_str (pda_cons pd_str (pda_cons pd_str pda_nil))))) (by rfl))))) pda_nil)))) pss_dnil) (pss_dcons (psd_if (pdt_cmp (o_eq hr.units) (pd 1) pd_str (nomark _)) (pss_done (psd_ret (pd_callTy c_intB rfl T.n_int bt_int (pda_cons (pd_cmp (o_eq hr.units) (pd_callB c_len rfl T.n_len bt_len (pda_cons (pd 2) pda_nil)) pd_int (nomark _)) pda_nil)))) pss_dnil) (pss_dcons (psd_set (i := 3) sc_deep.nd rfl (by first | exact .inl rfl | exact .inr rfl) (pd_if (pdt_cmp (o_in (u65 hr)) (pd 1) (pd_tup (pda_cons pd_str (pda_cons pd_str (pda_cons pd_str (pda_cons pd_str pda_nil))))) (by rfl)) pd_int (pd_if (pdt_cmp (o_in (u65 hr)) (pd 1) (pd_tup (pda_cons pd_str (pda_cons pd_str (pda_cons pd_str pda_nil)))) (by rfl)) pd_int pd_int))) (pss_dcons (psd_if (pdt_w (pdw_or (pdt_cmp (o_eq hr.units) (pd 3) pd_int (nomark _)) (pdw_or1 (pdt_cmp (o_ne hr.units) (pd_callB c_len rfl T.n_len bt_len (pda_cons (pd 2) pda_nil)) (pd 3) (nomark _))))) (pss_done (psd_ret pd_int)) pss_dnil) (pss_dcons (psd_setLc (i := 4) hm_val rfl sc_deep.nd rfl rfl rfl (pdi_seq (pd 2)) (blkOk_by (N := N_deep) (sc := defScope s_deep) (by decide +kernel)) (fun _ _ _ _ _ => pg_name (i := 5) sc_deep.nd rfl (Or.inl rfl)) (fun _ _ _ _ _ => pdts_nil) (fun _ _ _ _ _ => (pd_call c_self hG (hr.mono (by omega)) rfl (pda_cons (pd 5) pda_nil)))) (pss_done (psd_ret (pd_if (pdt_cmp (o_in (u65 hr)) pd_int (pd 4) (by rfl)) pd_int (pd_bin o_add pd_int (pd_callB (c_maxL rfl) rfl T.n_max bt_max (pda_cons (pd 4) pda_nil)))))))))))))
theorem t_pick {k : Nat} (hk : 2 ≤ k) (T : Tx K mg) (c_dip : Can P w K mg base 1 "_law_dip" s_dip ["_law_well", "_law_many"] sp_dip) (c_any : Can P w K mg base 2 "_law_any" s_any ["_law_well", "_law_some"] sp_any) {sp_self : SpD} (c_self : Can P w K mg base k "_law_pick" s_pick ["_law_well", "_law_deep_here"] sp_self) (f : Addr) (cd : Value) (A : Around) (outer : List Env) (s : Shared) (H : Hp) (E : XK) (hG : A.guards = some []) (hr : Room k (A.deeper (envOfC "_law_pick" (defScope s_pick) s.heap.objs.size f cd))) :
    PDSs (cxD P w K mg base N_pick "_law_pick" (defScope s_pick) f cd A outer s H E) (defBody s_pick) (b_pick sp_self) :=
  (pss_dcons (psd_if (pdt_cmp o_lt (pd 1) pd_int (nomark _)) (pss_done (psd_ret (pd_if (pdt_cmp o_gt (pd_call c_dip hG (hr.mono (by omega)) rfl (pda_cons (pd 0) (pda_cons pd_int pda_nil))) pd_int (nomark _)) (pd_tup (pda_cons pd_str (pda_cons (pd_call c_any hG (hr.mono (by omega)) rfl (pda_cons (pd 0) (pda_cons (pd_tup (pda_cons pd_str (pda_cons pd_str (pda_cons pd_str (pda_cons pd_str pda_nil))))) pda_nil))) pda_nil))) (pd_tup (pda_cons pd_str pda_nil))))) pss_dnil) (pss_dcons (psd_set (i := 2) sc_pick.nd rfl (by first | exact .inl rfl | exact .inr rfl) (pd_call c_self hG (hr.mono (by omega)) rfl (pda_cons (pd 0) (pda_cons (pd_bin o_sub (pd 1) pd_int) pda_nil)))) (pss_dcons (psd_if (pdt_cmp (o_eq hr.units) (pd_call c_dip hG (hr.mono (by omega)) rfl (pda_cons (pd 0) (pda_cons pd_int pda_nil))) pd_int (nomark _)) (pss_done (psd_ret (pd_tup (pda_cons (pd_call c_any hG (hr.mono (by omega)) rfl (pda_cons (pd 0) (pda_cons (pd_tup (pda_cons pd_str (pda_cons pd_str (pda_cons pd_str (pda_cons pd_str pda_nil))))) pda_nil))) (pda_cons (pd 2) pda_nil))))) pss_dnil) (pss_dcons (psd_set (i := 3) sc_pick.nd rfl (by first | exact .inl rfl | exact .inr rfl) (pd_call c_self hG (hr.mono (by omega)) rfl (pda_cons (pd 0) (pda_cons (pd_bin o_add pd_int (pd_call c_dip hG (hr.mono (by omega)) rfl (pda_cons (pd 0) (pda_cons (pd_callB (c_min rfl) rfl T.n_min bt_min (pda_cons (pd_bin o_sub (pd 1) pd_int) (pda_cons pd_int pda_nil))) pda_nil)))) pda_nil)))) (pss_dcons (psd_set (i := 4) sc_pick.nd rfl (by first | exact .inl rfl | exact .inr rfl) (pd_call c_any hG (hr.mono (by omega)) rfl (pda_cons (pd 0) (pda_cons (pd_tup (pda_cons pd_str (pda_cons pd_str (pda_cons pd_str pda_nil)))) pda_nil)))) (pss_done (psd_ret (pd_if (pdt_cmp (o_eq hr.units) (pd_call c_dip hG (hr.mono (by omega)) rfl (pda_cons (pd 0) (pda_cons pd_int pda_nil))) pd_int (nomark _)) (pd_tup (pda_cons (pd 4) (pda_cons (pd 2) (pda_cons (pd 3) pda_nil)))) (pd_tup (pda_cons (pd 4) (pda_cons (pd 3) (pda_cons (pd 2) pda_nil))))))))))))
theorem t_odd {k : Nat} (hk : 2 ≤ k) (T : Tx K mg) (c_any : Can P w K mg base 2 "_law_any" s_any ["_law_well", "_law_some"] sp_any) (f : Addr) (cd : Value) (A : Around) (outer : List Env) (s : Shared) (H : Hp) (E : XK) (hG : A.guards = some []) (hr : Room k (A.deeper (envOfC "_law_odd" (defScope s_odd) s.heap.objs.size f cd))) :
    PDSs (cxD P w K mg base N_odd "_law_odd" (defScope s_odd) f cd A outer s H E) (defBody s_odd) b_odd :=
  (pss_dcons (psd_set (i := 1) sc_odd.nd rfl (by first | exact .inl rfl | exact .inr rfl) (pd_tup (pda_cons (pd_tup (pda_cons pd_str pda_nil)) (pda_cons (pd_tup (pda_cons pd_str (pda_cons pd_str pda_nil))) (pda_cons pd_non (pda_cons pd_int (pda_cons pd_bl (pda_cons pd_bl (pda_cons pd_str (pda_cons pd_str (pda_cons pd_str (pda_cons pd_str (pda_cons (pd_tup pda_nil) (pda_cons (pd_lstV pda_nil) (pda_cons pd_dict0 (pda_cons (pd_tup (pda_cons pd_str (pda_cons (pd_tup pda_nil) pda_nil))) (pda_cons (pd_lstV (pda_cons pd_str pda_nil)) pda_nil))))))))))))))))) (pss_dcons (psd_set (i := 2) sc_odd.nd rfl (by first | exact .inl rfl | exact .inr rfl) (pd_tup (pda_cons (pd_tup (pda_cons pd_str pda_nil)) (pda_cons (pd_tup (pda_cons pd_str (pda_cons pd_str pda_nil))) (pda_cons (pd_tup (pda_cons pd_str (pda_cons pd_str pda_nil))) (pda_cons (pd_tup (pda_cons pd_str (pda_cons pd_str pda_nil))) (pda_cons (pd_tup (pda_cons pd_str (pda_cons pd_str pda_nil))) (pda_cons (pd_tup (pda_cons pd_str (pda_cons pd_str (pda_cons pd_str pda_nil)))) (pda_cons (pd_tup (pda_cons pd_str pda_nil)) pda_nil))))))))) (pss_dcons (psd_set (i := 3) sc_odd.nd rfl (by first | exact .inl rfl | exact .inr rfl) (pd_tup (pda_cons (pd_tup (pda_cons pd_str (pda_cons (pd_tup (pda_cons pd_str pda_nil)) pda_nil))) (pda_cons (pd_tup (pda_cons pd_str (pda_cons (pd_lstV (pda_cons pd_str pda_nil)) pda_nil))) (pda_cons (pd_tup (pda_cons (pd_lstV (pda_cons pd_str pda_nil)) (pda_cons pd_str pda_nil))) (pda_cons (pd_tup (pda_cons pd_dict0 (pda_cons pd_str pda_nil))) (pda_cons (pd_tup (pda_cons pd_str pda_nil)) (pda_cons (pd_tup (pda_cons (pd_tup (pda_cons pd_str pda_nil)) pda_nil)) (pda_cons (pd_tup (pda_cons pd_str pda_nil)) (pda_cons (pd_tup (pda_cons pd_str pda_nil)) pda_nil)))))))))) (pss_dcons (psd_set (i := 4) sc_odd.nd rfl (by first | exact .inl rfl | exact .inr rfl) (pd_tup (pda_cons (pd_tup (pda_cons pd_str (pda_cons pd_int pda_nil))) (pda_cons (pd_tup (pda_cons pd_str (pda_cons pd_non pda_nil))) (pda_cons (pd_tup (pda_cons pd_str (pda_cons pd_bl pda_nil))) (pda_cons (pd_tup (pda_cons pd_int (pda_cons pd_str pda_nil))) (pda_cons (pd_tup (pda_cons pd_non pda_nil)) (pda_cons (pd_tup (pda_cons pd_str (pda_cons pd_str pda_nil))) (pda_cons (pd_tup (pda_cons pd_str (pda_cons pd_str pda_nil))) (pda_cons (pd_tup (pda_cons pd_str (pda_cons pd_int pda_nil))) pda_nil)))))))))) (pss_done (psd_ret (pd_call c_any hG (hr.mono (by omega)) rfl (pda_cons (pd 0) (pda_cons (pd_bin o_add (pd_bin o_add (pd_bin o_add (pd 1) (pd 2)) (pd 3)) (pd 4)) pda_nil)))))))))
theorem t_bent {k : Nat} (hk : 3 ≤ k) (T : Tx K mg) (c_dip : Can P w K mg base 1 "_law_dip" s_dip ["_law_well", "_law_many"] sp_dip) {sp_self : SpD} (c_self : Can P w K mg base k "_law_bent" s_bent ["_law_well", "_law_thing_here"] sp_self) (c_any : Can P w K mg base 2 "_law_any" s_any ["_law_well", "_law_some"] sp_any) (c_odd : Can P w K mg base 3 "_law_odd" s_odd ["_law_well"] sp_odd) (f : Addr) (cd : Value) (A : Around) (outer : List Env) (s : Shared) (H : Hp) (E : XK) (hG : A.guards = some []) (hr : Room k (A.deeper (envOfC "_law_bent" (defScope s_bent) s.heap.objs.size f cd))) :
    PDSs (cxD P w K mg base N_bent "_law_bent" (defScope s_bent) f cd A outer s H E) (defBody s_bent) (b_bent sp_self) :=
  (pss_dcons (psd_if (pdt_w (pdw_and (pdt_cmp (o_ne hr.units) (pd_ix (pd 1) pd_int (fun _ _ => rfl)) pd_str (nomark _)) (pdw_and (pdt_cmp o_gt (pd_callB c_len rfl T.n_len bt_len (pda_cons (pd 1) pda_nil)) pd_int (nomark _)) (pdw_and1 (pdt_cmp o_gt (pd_call c_dip hG (hr.mono (by omega)) rfl (pda_cons (pd 0) (pda_cons pd_int pda_nil))) pd_int (nomark _)))))) (pss_dcons (psd_set (i := 2) sc_bent.nd rfl (by first | exact .inl rfl | exact .inr rfl) (pd_bin o_add pd_int (pd_call c_dip hG (hr.mono (by omega)) rfl (pda_cons (pd 0) (pda_cons (pd_bin o_sub (pd_callB c_len rfl T.n_len bt_len (pda_cons (pd 1) pda_nil)) pd_int) pda_nil))))) (pss_done (psd_ret (pd_bin o_add (pd_bin o_add (pd_sl (pd 1) pdo_none (pdo_some (pd 2))) (pd_tup (pda_cons (pd_call c_self hG (hr.mono (by omega)) rfl (pda_cons (pd 0) (pda_cons (pd_ix (pd 1) (pd 2) (fun _ _ => rfl)) pda_nil))) pda_nil))) (pd_sl (pd 1) (pdo_some (pd_bin o_add (pd 2) pd_int)) pdo_none))))) pss_dnil) (pss_dcons (psd_set (i := 3) sc_bent.nd rfl (by first | exact .inl rfl | exact .inr rfl) (pd_call c_dip hG (hr.mono (by omega)) rfl (pda_cons (pd 0) (pda_cons pd_int pda_nil)))) (pss_dcons (psd_if (pdt_cmp (o_eq hr.units) (pd 3) pd_int (nomark _)) (pss_done (psd_ret (pd_callTy c_listV rfl T.n_list bt_list (pda_cons (pd 1) pda_nil)))) pss_dnil) (pss_dcons (psd_if (pdt_cmp (o_eq hr.units) (pd 3) pd_int (nomark _)) (pss_done (psd_ret (pd_sl (pd 1) pdo_none (pdo_some (pd_neg pd_int))))) pss_dnil) (pss_dcons (psd_if (pdt_cmp (o_eq hr.units) (pd 3) pd_int (nomark _)) (pss_done (psd_ret (pd_bin o_add (pd 1) (pd_sl (pd 1) (pdo_some (pd_neg pd_int)) pdo_none)))) pss_dnil) (pss_dcons (psd_if (pdt_cmp (o_eq hr.units) (pd 3) pd_int (nomark _)) (pss_done (psd_ret (pd_bin o_add (pd 1) (pd_tup (pda_cons (pd_tup (pda_cons pd_str pda_nil)) pda_nil))))) pss_dnil) (pss_dcons (psd_if (pdt_cmp (o_eq hr.units) (pd 3) pd_int (nomark _)) (pss_done (psd_ret (pd_tup (pda_cons (pd 1) pda_nil)))) pss_dnil) (pss_dcons (psd_if (pdt_cmp o_lt (pd 3) pd_int (nomark _)) (pss_dcons (psd_set (i := 4) sc_bent.nd rfl (by first | exact .inl rfl | exact .inr rfl) (pd_tup (pda_cons pd_str (pda_cons pd_str (pda_cons pd_str (pda_cons pd_str (pda_cons pd_str (pda_cons pd_str (pda_cons pd_str (pda_cons pd_str (pda_cons pd_str (pda_cons pd_str (pda_cons pd_str (pda_cons pd_str pda_nil)))))))))))))) (pss_done (psd_ret (pd_bin o_add (pd_tup (pda_cons (pd_call c_any hG (hr.mono (by omega)) rfl (pda_cons (pd 0) (pda_cons (pd 4) pda_nil))) pda_nil)) (pd_sl (pd 1) (pdo_some pd_int) pdo_none))))) pss_dnil) (pss_done (psd_ret (pd_call c_odd hG (hr.mono (by omega)) rfl (pda_cons (pd 0) pda_nil))))))))))))
theorem t_thing {k : Nat} (hk : 14 ≤ k) (T : Tx K mg) (c_dip : Can P w K mg base 1 "_law_dip" s_dip ["_law_well", "_law_many"] sp_dip) (c_odd : Can P w K mg base 3 "_law_odd" s_odd ["_law_well"] sp_odd) (c_pick : Can P w K mg base 12 "_law_pick" s_pick ["_law_well", "_law_deep_here"] sp_pick) (c_any : Can P w K mg base 2 "_law_any" s_any ["_law_well", "_law_some"] sp_any) (c_bent : Can P w K mg base 14 "_law_bent" s_bent ["_law_well", "_law_thing_here"] sp_bent) (f : Addr) (cd : Value) (A : Around) (outer : List Env) (s : Shared) (H : Hp) (E : XK) (hG : A.guards = some []) (hr : Room k (A.deeper (envOfC "_law_thing" (defScope s_thing) s.heap.objs.size f cd))) :
    PDSs (cxD P w K mg base N_thing "_law_thing" (defScope s_thing) f cd A outer s H E) (defBody s_thing) b_thing :=
  (pss_dcons (psd_set (i := 1) sc_thing.nd rfl (by first | exact .inl rfl | exact .inr rfl) (pd_call c_dip hG (hr.mono (by omega)) rfl (pda_cons (pd 0) (pda_cons pd_int pda_nil)))) (pss_dcons (psd_if (pdt_cmp (o_eq hr.units) (pd 1) pd_int (nomark _)) (pss_done (psd_ret (pd_call c_odd hG (hr.mono (by omega)) rfl (pda_cons (pd 0) pda_nil)))) pss_dnil) (pss_dcons (psd_set (i := 2) sc_thing.nd rfl (by first | exact .inl rfl | exact .inr rfl) (pd_call c_pick hG (hr.mono (by omega)) rfl (pda_cons (pd 0) (pda_cons (pd_call c_any hG (hr.mono (by omega)) rfl (pda_cons (pd 0) (pda_cons (pd_tup (pda_cons pd_int (pda_cons pd_int (pda_cons pd_int (pda_cons pd_int (pda_cons pd_int (pda_cons pd_int (pda_cons pd_int (pda_cons pd_int (pda_cons pd_int (pda_cons pd_int (pda_cons pd_int pda_nil)))))))))))) pda_nil))) pda_nil)))) (pss_done (psd_ret (pd_if (pdt_cmp o_lt (pd 1) pd_int (nomark _)) (pd 2) (pd_call c_bent hG (hr.mono (by omega)) rfl (pda_cons (pd 0) (pda_cons (pd 2) pda_nil)))))))))
theorem t_law {k : Nat} (hk : 15 ≤ k) (T : Tx K mg) (c_spring : Can P w K mg base 1 "_law_spring" s_spring ["_law_script"] sp_spring) (c_thing : Can P w K mg base 15 "_law_thing" s_thing ["_law_well"] sp_thing) (c_deep : Can P w K mg base 15 "_law_deep" s_deep ["_law_thing_here"] sp_deep) (c_dip : Can P w K mg base 1 "_law_dip" s_dip ["_law_well", "_law_many"] sp_dip) (c_is_pick : Can P w K mg base 10 "is_pick" s_is_pick ["value"] sp_is_pick) (f : Addr) (cd : Value) (A : Around) (outer : List Env) (s : Shared) (H : Hp) (E : XK) (hG : A.guards = some []) (hr : Room k (A.deeper (envOfC "law" (defScope s_law) s.heap.objs.size f cd))) :
    PDSs (cxD P w K mg base N_law "law" (defScope s_law) f cd A outer s H E) (defBody s_law) b_law :=
  (pss_dcons (psd_set (i := 1) sc_law.nd rfl (by first | exact .inl rfl | exact .inr rfl) (pd_call c_spring hG (hr.mono (by omega)) rfl (pda_cons (pd 0) pda_nil))) (pss_dcons (psd_for PassesOwn.never rfl (pdi_rng1 rfl T.n_range (pda_cons pd_int pda_nil)) (pdg_name (i := 2) sc_law.nd rfl (by first | exact .inl rfl | exact .inr rfl)) (pss_dcons (psd_set (i := 3) sc_law.nd rfl (by first | exact .inl rfl | exact .inr rfl) (pd_call c_thing hG (hr.mono (by omega)) rfl (pda_cons (pd 1) pda_nil))) (pss_dcons (psd_set (i := 4) sc_law.nd rfl (by first | exact .inl rfl | exact .inr rfl) (pd_chain o_lt o_le pd_int (pd_call c_deep hG (hr.mono (by omega)) rfl (pda_cons (pd 3) pda_nil)) pd_int)) (pss_dcons (psd_set (i := 5) sc_law.nd rfl (by first | exact .inl rfl | exact .inr rfl) (pd_if (pdt_cmp (o_eq hr.units) (pd_call c_dip hG (hr.mono (by omega)) rfl (pda_cons (pd 1) (pda_cons pd_int pda_nil))) pd_int (nomark _)) (pd_callK (ks := ["value"]) c_is_pick hG (hr.mono (by omega)) (by rfl) [0] (fun _ _ _ _ _ _ ws hl => match ws, hl with | [_], _ => rfl) (pdk_cons (pd 3) pdk_nil) (hlen := fun e s Q h => by simpa [dCons, dNil] using h)) (pd_call c_is_pick hG (hr.mono (by omega)) rfl (pda_cons (pd 3) pda_nil)))) (pss_done (psd_if (pdt_cmp (o_ne hr.units) (pd_callB (c_repr hG (u65 hr)) rfl T.n_repr bt_repr (pda_cons (pd 5) pda_nil)) (pd_callB (c_repr hG (u65 hr)) rfl T.n_repr bt_repr (pda_cons (pd 4) pda_nil)) (nomark _)) (pss_done (psd_ret pd_bl)) pss_dnil)))))) (pss_done (psd_ret pd_bl))))
end
end K42
namespace K42
open PySem PySem.Spec PyProof.Rows L2 DL LB
section
variable {P : Program} {w : World} {K : PySem.W.Frag} {mg : Str → Option Value} {base : Heap}
theorem can_none {x : Str} {st : Stmt} {ps : List Str} {k : Nat} (F : Has K mg x st)
    (bind : ∀ (kV doc pm : Value) (an : Option Addr) (cdv ct : Value) (us : List Value), us.length = ps.length → bindArgs (PySem.W.fnOf x x (defArgs st) (defBody st) (defScope st) .none kV doc pm an cdv ct) ⟨us, []⟩ = pure (ps.zip us)) : Can P w K mg base k x st ps (fun _ _ _ => False) := by
  obtain ⟨f, fd, hm, F⟩ := F.ex
  exact ⟨f, fd, ⟨fun vs H Q E ⟨_, _, _, _, _, _, h, _⟩ => h.elim, fun A outer s H args us vs Q E hg hr e0 hb hv ⟨_, _, _, _, _, _, h, _⟩ => h.elim⟩, hm, F, F.binds bind⟩
theorem canD_none {x : Str} {st : Stmt} {ps : List Str} {dvs : List V} {k : Nat} (F : HasD K mg x st dvs) (hd : dvs ≠ []) (n : Nat) (hn : n + dvs.length = ps.length)
    (b0 : ∀ (T : Addr) (kV doc pm : Value) (an : Option Addr) (cdv ct : Value) (us its : List Value), us.length = ps.length → its.length = dvs.length →
      ∃ k, bindArgs (PySem.W.fnOf x x (defArgs st) (defBody st) (defScope st) (.ref T) kV doc pm an cdv ct) ⟨us, []⟩ = seqItems? (.ref T) >>= k ∧ k (some its.toArray) = pure (ps.zip us))
    (b1 : ∀ (T : Addr) (kV doc pm : Value) (an : Option Addr) (cdv ct : Value) (us its : List Value), us.length = n → its.length = dvs.length →
      ∃ k, bindArgs (PySem.W.fnOf x x (defArgs st) (defBody st) (defScope st) (.ref T) kV doc pm an cdv ct) ⟨us, []⟩ = seqItems? (.ref T) >>= k ∧ k (some its.toArray) = pure (ps.zip (us ++ its))) : CanD P w K mg base k x dvs ps (fun _ _ _ => False) := by
  obtain ⟨f, fd, hm, F⟩ := F.ex
  refine ⟨f, fd, ⟨fun vs H Q E ⟨_, _, _, _, _, _, h, _⟩ => h.elim, fun A outer s H args us vs Q E hg hr e0 hb hv ⟨_, _, _, _, _, _, h, _⟩ => h.elim⟩, hm, F.kp, ?_, ?_⟩
  · obtain ⟨ds, v, B⟩ := F.binds1 (ps := ps) ps.length dvs.length hd (by omega) fun T kV doc pm an cdv ct us its h1 h2 => by
      obtain ⟨k, e1, e2⟩ := b0 T kV doc pm an cdv ct us its h1 h2
      refine ⟨k, e1, ?_⟩
      rw [e2, ← h2, List.drop_length, List.append_nil]
    rw [List.drop_length] at v
    cases v
    exact B
  · obtain ⟨ds, v, B⟩ := F.binds1 (ps := ps) n 0 hd (by omega) fun T kV doc pm an cdv ct us its h1 h2 => b1 T kV doc pm an cdv ct us its h1 h2
    exact ⟨ds, v, B⟩
theorem c_is_row (T : Tx K mg) : Can P w K mg base 1 "is_row" s_is_row ["value", "low", "high"] sp_is_row :=
  can_of T.h_is_row sc_is_row (fun ds s Q h => by
    first
    | (obtain ⟨_, rfl, _⟩ := h; rfl)
    | (obtain ⟨_, _, rfl, _⟩ := h; rfl)
    | (obtain ⟨_, _, _, rfl, _⟩ := h; rfl)
    | (obtain ⟨_, _, _, _, rfl, _⟩ := h; rfl)
    | (obtain ⟨_, _, _, _, _, rfl, _⟩ := h; rfl)
    | (obtain ⟨_, _, _, _, _, _, rfl, _⟩ := h; rfl)
    | (obtain ⟨_, _, _, _, _, _, _, rfl, _⟩ := h; rfl)
    | (obtain ⟨_, _, _, _, _, _, _, _, rfl, _⟩ := h; rfl)
    | (obtain ⟨_, _, _, _, _, _, _, _, _, rfl, _⟩ := h; rfl)
    | (unfold sp_is_row at h; split at h <;> first | rfl | exact h.elim)) (fun _ _ _ _ _ _ us hl => match us, hl with | [_, _, _], _ => rfl) (fun f cd A outer s H E hG hr => t_is_row (k := 0) (by omega) T  f cd A outer s H E hG hr) r_is_row
theorem c_is_name (T : Tx K mg) : Can P w K mg base 1 "is_name" s_is_name ["value"] sp_is_name :=
  can_of T.h_is_name sc_is_name (fun ds s Q h => by
    first
    | (obtain ⟨_, rfl, _⟩ := h; rfl)
    | (obtain ⟨_, _, rfl, _⟩ := h; rfl)
    | (obtain ⟨_, _, _, rfl, _⟩ := h; rfl)
    | (obtain ⟨_, _, _, _, rfl, _⟩ := h; rfl)
    | (obtain ⟨_, _, _, _, _, rfl, _⟩ := h; rfl)
    | (obtain ⟨_, _, _, _, _, _, rfl, _⟩ := h; rfl)
    | (obtain ⟨_, _, _, _, _, _, _, rfl, _⟩ := h; rfl)
    | (obtain ⟨_, _, _, _, _, _, _, _, rfl, _⟩ := h; rfl)
    | (obtain ⟨_, _, _, _, _, _, _, _, _, rfl, _⟩ := h; rfl)
    | (unfold sp_is_name at h; split at h <;> first | rfl | exact h.elim)) (fun _ _ _ _ _ _ us hl => match us, hl with | [_], _ => rfl) (fun f cd A outer s H E hG hr => t_is_name (k := 0) (by omega) T  f cd A outer s H E hG hr) r_is_name
theorem c_is_pick_formK (T : Tx K mg) : ∀ n : Nat, CanD P w K mg base (2 + n) "is_pick_form" [V.int 6] ["value", "deep"] (sp_is_pick_formK n)
  | 0 => canD_of T.h_is_pick_form sc_is_pick_form (by simp) 1 (by rfl) (fun _ _ _ _ _ _ _ us its hl h2 => match us, hl, its, h2 with | [_, _], _, [_], _ => ⟨_, rfl, rfl⟩) (fun _ _ _ _ _ _ _ us its hl h2 => match us, hl, its, h2 with | [_], _, [_], _ => ⟨_, rfl, rfl⟩) (fun ds s Q h => by
    first
    | (obtain ⟨_, rfl, _⟩ := h; rfl)
    | (obtain ⟨_, _, rfl, _⟩ := h; rfl)
    | (obtain ⟨_, _, _, rfl, _⟩ := h; rfl)
    | (obtain ⟨_, _, _, _, rfl, _⟩ := h; rfl)
    | (obtain ⟨_, _, _, _, _, rfl, _⟩ := h; rfl)
    | (obtain ⟨_, _, _, _, _, _, rfl, _⟩ := h; rfl)
    | (obtain ⟨_, _, _, _, _, _, _, rfl, _⟩ := h; rfl)
    | (obtain ⟨_, _, _, _, _, _, _, _, rfl, _⟩ := h; rfl)
    | (obtain ⟨_, _, _, _, _, _, _, _, _, rfl, _⟩ := h; rfl)
    | (unfold sp_is_pick_formK at h; split at h <;> first | rfl | exact h.elim)) (fun f cd A outer s H E hG hr => t_is_pick_form (k := 1) (by omega) T (c_is_row T) (c_is_name T) (canD_none T.h_is_pick_form (by simp) 1 (by rfl) (fun _ _ _ _ _ _ _ us its hl h2 => match us, hl, its, h2 with | [_, _], _, [_], _ => ⟨_, rfl, rfl⟩) (fun _ _ _ _ _ _ _ us its hl h2 => match us, hl, its, h2 with | [_], _, [_], _ => ⟨_, rfl, rfl⟩)) f cd A outer s H E hG hr) (r_is_pick_form 0 _ (fun m e => by cases e))
  | n + 1 => canD_of T.h_is_pick_form sc_is_pick_form (by simp) 1 (by rfl) (fun _ _ _ _ _ _ _ us its hl h2 => match us, hl, its, h2 with | [_, _], _, [_], _ => ⟨_, rfl, rfl⟩) (fun _ _ _ _ _ _ _ us its hl h2 => match us, hl, its, h2 with | [_], _, [_], _ => ⟨_, rfl, rfl⟩) (fun ds s Q h => by
    first
    | (obtain ⟨_, rfl, _⟩ := h; rfl)
    | (obtain ⟨_, _, rfl, _⟩ := h; rfl)
    | (obtain ⟨_, _, _, rfl, _⟩ := h; rfl)
    | (obtain ⟨_, _, _, _, rfl, _⟩ := h; rfl)
    | (obtain ⟨_, _, _, _, _, rfl, _⟩ := h; rfl)
    | (obtain ⟨_, _, _, _, _, _, rfl, _⟩ := h; rfl)
    | (obtain ⟨_, _, _, _, _, _, _, rfl, _⟩ := h; rfl)
    | (obtain ⟨_, _, _, _, _, _, _, _, rfl, _⟩ := h; rfl)
    | (obtain ⟨_, _, _, _, _, _, _, _, _, rfl, _⟩ := h; rfl)
    | (unfold sp_is_pick_formK at h; split at h <;> first | rfl | exact h.elim)) (fun f cd A outer s H E hG hr => t_is_pick_form (k := 2 + n) (by omega) T (c_is_row T) (c_is_name T) (c_is_pick_formK T n) f cd A outer s H E hG hr) (r_is_pick_form (n + 1) _ (fun m e ds st Q h => by cases e; exact h))
theorem c_is_pick_form (T : Tx K mg) : CanD P w K mg base 9 "is_pick_form" [V.int 6] ["value", "deep"] sp_is_pick_form := by
  obtain ⟨f, fd, F, h⟩ := (c_is_pick_formK (P := P) (w := w) (base := base) T 6).ex
  exact ⟨f, fd, FnG.mono F (by omega), h⟩
theorem c_is_pick (T : Tx K mg) : Can P w K mg base 10 "is_pick" s_is_pick ["value"] sp_is_pick :=
  can_of T.h_is_pick sc_is_pick (fun ds s Q h => by
    first
    | (obtain ⟨_, rfl, _⟩ := h; rfl)
    | (obtain ⟨_, _, rfl, _⟩ := h; rfl)
    | (obtain ⟨_, _, _, rfl, _⟩ := h; rfl)
    | (obtain ⟨_, _, _, _, rfl, _⟩ := h; rfl)
    | (obtain ⟨_, _, _, _, _, rfl, _⟩ := h; rfl)
    | (obtain ⟨_, _, _, _, _, _, rfl, _⟩ := h; rfl)
    | (obtain ⟨_, _, _, _, _, _, _, rfl, _⟩ := h; rfl)
    | (obtain ⟨_, _, _, _, _, _, _, _, rfl, _⟩ := h; rfl)
    | (obtain ⟨_, _, _, _, _, _, _, _, _, rfl, _⟩ := h; rfl)
    | (unfold sp_is_pick at h; split at h <;> first | rfl | exact h.elim)) (fun _ _ _ _ _ _ us hl => match us, hl with | [_], _ => rfl) (fun f cd A outer s H E hG hr => t_is_pick (k := 9) (by omega) T (c_is_pick_form T) f cd A outer s H E hG hr) r_is_pick
theorem c_spring (T : Tx K mg) : Can P w K mg base 1 "_law_spring" s_spring ["_law_script"] sp_spring :=
  can_of T.h_spring sc_spring (fun ds s Q h => by
    first
    | (obtain ⟨_, rfl, _⟩ := h; rfl)
    | (obtain ⟨_, _, rfl, _⟩ := h; rfl)
    | (obtain ⟨_, _, _, rfl, _⟩ := h; rfl)
    | (obtain ⟨_, _, _, _, rfl, _⟩ := h; rfl)
    | (obtain ⟨_, _, _, _, _, rfl, _⟩ := h; rfl)
    | (obtain ⟨_, _, _, _, _, _, rfl, _⟩ := h; rfl)
    | (obtain ⟨_, _, _, _, _, _, _, rfl, _⟩ := h; rfl)
    | (obtain ⟨_, _, _, _, _, _, _, _, rfl, _⟩ := h; rfl)
    | (obtain ⟨_, _, _, _, _, _, _, _, _, rfl, _⟩ := h; rfl)
    | (unfold sp_spring at h; split at h <;> first | rfl | exact h.elim)) (fun _ _ _ _ _ _ us hl => match us, hl with | [_], _ => rfl) (fun f cd A outer s H E hG hr => t_spring (k := 0) (by omega) T  f cd A outer s H E hG hr) r_spring
theorem c_dip (T : Tx K mg) : Can P w K mg base 1 "_law_dip" s_dip ["_law_well", "_law_many"] sp_dip :=
  can_of T.h_dip sc_dip (fun ds s Q h => by
    first
    | (obtain ⟨_, rfl, _⟩ := h; rfl)
    | (obtain ⟨_, _, rfl, _⟩ := h; rfl)
    | (obtain ⟨_, _, _, rfl, _⟩ := h; rfl)
    | (obtain ⟨_, _, _, _, rfl, _⟩ := h; rfl)
    | (obtain ⟨_, _, _, _, _, rfl, _⟩ := h; rfl)
    | (obtain ⟨_, _, _, _, _, _, rfl, _⟩ := h; rfl)
    | (obtain ⟨_, _, _, _, _, _, _, rfl, _⟩ := h; rfl)
    | (obtain ⟨_, _, _, _, _, _, _, _, rfl, _⟩ := h; rfl)
    | (obtain ⟨_, _, _, _, _, _, _, _, _, rfl, _⟩ := h; rfl)
    | (unfold sp_dip at h; split at h <;> first | rfl | exact h.elim)) (fun _ _ _ _ _ _ us hl => match us, hl with | [_, _], _ => rfl) (fun f cd A outer s H E hG hr => t_dip (k := 0) (by omega) T  f cd A outer s H E hG hr) r_dip
theorem c_any (T : Tx K mg) : Can P w K mg base 2 "_law_any" s_any ["_law_well", "_law_some"] sp_any :=
  can_of T.h_any sc_any (fun ds s Q h => by
    first
    | (obtain ⟨_, rfl, _⟩ := h; rfl)
    | (obtain ⟨_, _, rfl, _⟩ := h; rfl)
    | (obtain ⟨_, _, _, rfl, _⟩ := h; rfl)
    | (obtain ⟨_, _, _, _, rfl, _⟩ := h; rfl)
    | (obtain ⟨_, _, _, _, _, rfl, _⟩ := h; rfl)
    | (obtain ⟨_, _, _, _, _, _, rfl, _⟩ := h; rfl)
    | (obtain ⟨_, _, _, _, _, _, _, rfl, _⟩ := h; rfl)
    | (obtain ⟨_, _, _, _, _, _, _, _, rfl, _⟩ := h; rfl)
    | (obtain ⟨_, _, _, _, _, _, _, _, _, rfl, _⟩ := h; rfl)
    | (unfold sp_any at h; split at h <;> first | rfl | exact h.elim)) (fun _ _ _ _ _ _ us hl => match us, hl with | [_, _], _ => rfl) (fun f cd A outer s H E hG hr => t_any (k := 1) (by omega) T (c_dip T) f cd A outer s H E hG hr) r_any
theorem c_deepK (T : Tx K mg) : ∀ n : Nat, Can P w K mg base (1 + n) "_law_deep" s_deep ["_law_thing_here"] (sp_deepK n)
  | 0 => can_of T.h_deep sc_deep (fun ds s Q h => by
    first
    | (obtain ⟨_, rfl, _⟩ := h; rfl)
    | (obtain ⟨_, _, rfl, _⟩ := h; rfl)
    | (obtain ⟨_, _, _, rfl, _⟩ := h; rfl)
    | (obtain ⟨_, _, _, _, rfl, _⟩ := h; rfl)
    | (obtain ⟨_, _, _, _, _, rfl, _⟩ := h; rfl)
    | (obtain ⟨_, _, _, _, _, _, rfl, _⟩ := h; rfl)
    | (obtain ⟨_, _, _, _, _, _, _, rfl, _⟩ := h; rfl)
    | (obtain ⟨_, _, _, _, _, _, _, _, rfl, _⟩ := h; rfl)
    | (obtain ⟨_, _, _, _, _, _, _, _, _, rfl, _⟩ := h; rfl)
    | (unfold sp_deepK at h; split at h <;> first | rfl | exact h.elim)) (fun _ _ _ _ _ _ us hl => match us, hl with | [_], _ => rfl) (fun f cd A outer s H E hG hr => t_deep (k := 0) (by omega) T (can_none T.h_deep (fun _ _ _ _ _ _ us hl => match us, hl with | [_], _ => rfl)) f cd A outer s H E hG hr) (r_deep 0 _ (fun m e => by cases e))
  | n + 1 => can_of T.h_deep sc_deep (fun ds s Q h => by
    first
    | (obtain ⟨_, rfl, _⟩ := h; rfl)
    | (obtain ⟨_, _, rfl, _⟩ := h; rfl)
    | (obtain ⟨_, _, _, rfl, _⟩ := h; rfl)
    | (obtain ⟨_, _, _, _, rfl, _⟩ := h; rfl)
    | (obtain ⟨_, _, _, _, _, rfl, _⟩ := h; rfl)
    | (obtain ⟨_, _, _, _, _, _, rfl, _⟩ := h; rfl)
    | (obtain ⟨_, _, _, _, _, _, _, rfl, _⟩ := h; rfl)
    | (obtain ⟨_, _, _, _, _, _, _, _, rfl, _⟩ := h; rfl)
    | (obtain ⟨_, _, _, _, _, _, _, _, _, rfl, _⟩ := h; rfl)
    | (unfold sp_deepK at h; split at h <;> first | rfl | exact h.elim)) (fun _ _ _ _ _ _ us hl => match us, hl with | [_], _ => rfl) (fun f cd A outer s H E hG hr => t_deep (k := 1 + n) (by omega) T (c_deepK T n) f cd A outer s H E hG hr) (r_deep (n + 1) _ (fun m e ds st Q h => by cases e; exact h))
theorem c_deep (T : Tx K mg) : Can P w K mg base 15 "_law_deep" s_deep ["_law_thing_here"] sp_deep := (c_deepK T 13).lift (by omega)
theorem c_pickK (T : Tx K mg) : ∀ n : Nat, Can P w K mg base (3 + n) "_law_pick" s_pick ["_law_well", "_law_deep_here"] (sp_pickK n)
  | 0 => can_of T.h_pick sc_pick (fun ds s Q h => by
    first
    | (obtain ⟨_, rfl, _⟩ := h; rfl)
    | (obtain ⟨_, _, rfl, _⟩ := h; rfl)
    | (obtain ⟨_, _, _, rfl, _⟩ := h; rfl)
    | (obtain ⟨_, _, _, _, rfl, _⟩ := h; rfl)
    | (obtain ⟨_, _, _, _, _, rfl, _⟩ := h; rfl)
    | (obtain ⟨_, _, _, _, _, _, rfl, _⟩ := h; rfl)
    | (obtain ⟨_, _, _, _, _, _, _, rfl, _⟩ := h; rfl)
    | (obtain ⟨_, _, _, _, _, _, _, _, rfl, _⟩ := h; rfl)
    | (obtain ⟨_, _, _, _, _, _, _, _, _, rfl, _⟩ := h; rfl)
    | (unfold sp_pickK at h; split at h <;> first | rfl | exact h.elim)) (fun _ _ _ _ _ _ us hl => match us, hl with | [_, _], _ => rfl) (fun f cd A outer s H E hG hr => t_pick (k := 2) (by omega) T (c_dip T) (c_any T) (can_none T.h_pick (fun _ _ _ _ _ _ us hl => match us, hl with | [_, _], _ => rfl)) f cd A outer s H E hG hr) (r_pick 0 _ (fun m e => by cases e))
  | n + 1 => can_of T.h_pick sc_pick (fun ds s Q h => by
    first
    | (obtain ⟨_, rfl, _⟩ := h; rfl)
    | (obtain ⟨_, _, rfl, _⟩ := h; rfl)
    | (obtain ⟨_, _, _, rfl, _⟩ := h; rfl)
    | (obtain ⟨_, _, _, _, rfl, _⟩ := h; rfl)
    | (obtain ⟨_, _, _, _, _, rfl, _⟩ := h; rfl)
    | (obtain ⟨_, _, _, _, _, _, rfl, _⟩ := h; rfl)
    | (obtain ⟨_, _, _, _, _, _, _, rfl, _⟩ := h; rfl)
    | (obtain ⟨_, _, _, _, _, _, _, _, rfl, _⟩ := h; rfl)
    | (obtain ⟨_, _, _, _, _, _, _, _, _, rfl, _⟩ := h; rfl)
    | (unfold sp_pickK at h; split at h <;> first | rfl | exact h.elim)) (fun _ _ _ _ _ _ us hl => match us, hl with | [_, _], _ => rfl) (fun f cd A outer s H E hG hr => t_pick (k := 3 + n) (by omega) T (c_dip T) (c_any T) (c_pickK T n) f cd A outer s H E hG hr) (r_pick (n + 1) _ (fun m e ds st Q h => by cases e; exact h))
theorem c_pick (T : Tx K mg) : Can P w K mg base 12 "_law_pick" s_pick ["_law_well", "_law_deep_here"] sp_pick := (c_pickK T 7).lift (by omega)
theorem c_odd (T : Tx K mg) : Can P w K mg base 3 "_law_odd" s_odd ["_law_well"] sp_odd :=
  can_of T.h_odd sc_odd (fun ds s Q h => by
    first
    | (obtain ⟨_, rfl, _⟩ := h; rfl)
    | (obtain ⟨_, _, rfl, _⟩ := h; rfl)
    | (obtain ⟨_, _, _, rfl, _⟩ := h; rfl)
    | (obtain ⟨_, _, _, _, rfl, _⟩ := h; rfl)
    | (obtain ⟨_, _, _, _, _, rfl, _⟩ := h; rfl)
    | (obtain ⟨_, _, _, _, _, _, rfl, _⟩ := h; rfl)
    | (obtain ⟨_, _, _, _, _, _, _, rfl, _⟩ := h; rfl)
    | (obtain ⟨_, _, _, _, _, _, _, _, rfl, _⟩ := h; rfl)
    | (obtain ⟨_, _, _, _, _, _, _, _, _, rfl, _⟩ := h; rfl)
    | (unfold sp_odd at h; split at h <;> first | rfl | exact h.elim)) (fun _ _ _ _ _ _ us hl => match us, hl with | [_], _ => rfl) (fun f cd A outer s H E hG hr => t_odd (k := 2) (by omega) T (c_any T) f cd A outer s H E hG hr) r_odd
theorem c_bentK (T : Tx K mg) : ∀ n : Nat, Can P w K mg base (4 + n) "_law_bent" s_bent ["_law_well", "_law_thing_here"] (sp_bentK n)
  | 0 => can_of T.h_bent sc_bent (fun ds s Q h => by
    first
    | (obtain ⟨_, rfl, _⟩ := h; rfl)
    | (obtain ⟨_, _, rfl, _⟩ := h; rfl)
    | (obtain ⟨_, _, _, rfl, _⟩ := h; rfl)
    | (obtain ⟨_, _, _, _, rfl, _⟩ := h; rfl)
    | (obtain ⟨_, _, _, _, _, rfl, _⟩ := h; rfl)
    | (obtain ⟨_, _, _, _, _, _, rfl, _⟩ := h; rfl)
    | (obtain ⟨_, _, _, _, _, _, _, rfl, _⟩ := h; rfl)
    | (obtain ⟨_, _, _, _, _, _, _, _, rfl, _⟩ := h; rfl)
    | (obtain ⟨_, _, _, _, _, _, _, _, _, rfl, _⟩ := h; rfl)
    | (unfold sp_bentK at h; split at h <;> first | rfl | exact h.elim)) (fun _ _ _ _ _ _ us hl => match us, hl with | [_, _], _ => rfl) (fun f cd A outer s H E hG hr => t_bent (k := 3) (by omega) T (c_dip T) (can_none T.h_bent (fun _ _ _ _ _ _ us hl => match us, hl with | [_, _], _ => rfl)) (c_any T) (c_odd T) f cd A outer s H E hG hr) (r_bent 0 _ (fun m e => by cases e))
  | n + 1 => can_of T.h_bent sc_bent (fun ds s Q h => by
    first
    | (obtain ⟨_, rfl, _⟩ := h; rfl)
    | (obtain ⟨_, _, rfl, _⟩ := h; rfl)
    | (obtain ⟨_, _, _, rfl, _⟩ := h; rfl)
    | (obtain ⟨_, _, _, _, rfl, _⟩ := h; rfl)
    | (obtain ⟨_, _, _, _, _, rfl, _⟩ := h; rfl)
    | (obtain ⟨_, _, _, _, _, _, rfl, _⟩ := h; rfl)
    | (obtain ⟨_, _, _, _, _, _, _, rfl, _⟩ := h; rfl)
    | (obtain ⟨_, _, _, _, _, _, _, _, rfl, _⟩ := h; rfl)
    | (obtain ⟨_, _, _, _, _, _, _, _, _, rfl, _⟩ := h; rfl)
    | (unfold sp_bentK at h; split at h <;> first | rfl | exact h.elim)) (fun _ _ _ _ _ _ us hl => match us, hl with | [_, _], _ => rfl) (fun f cd A outer s H E hG hr => t_bent (k := 4 + n) (by omega) T (c_dip T) (c_bentK T n) (c_any T) (c_odd T) f cd A outer s H E hG hr) (r_bent (n + 1) _ (fun m e ds st Q h => by cases e; exact h))
theorem c_bent (T : Tx K mg) : Can P w K mg base 14 "_law_bent" s_bent ["_law_well", "_law_thing_here"] sp_bent := (c_bentK T 7).lift (by omega)
theorem c_thing (T : Tx K mg) : Can P w K mg base 15 "_law_thing" s_thing ["_law_well"] sp_thing :=
  can_of T.h_thing sc_thing (fun ds s Q h => by
    first
    | (obtain ⟨_, rfl, _⟩ := h; rfl)
    | (obtain ⟨_, _, rfl, _⟩ := h; rfl)
    | (obtain ⟨_, _, _, rfl, _⟩ := h; rfl)
    | (obtain ⟨_, _, _, _, rfl, _⟩ := h; rfl)
    | (obtain ⟨_, _, _, _, _, rfl, _⟩ := h; rfl)
    | (obtain ⟨_, _, _, _, _, _, rfl, _⟩ := h; rfl)
    | (obtain ⟨_, _, _, _, _, _, _, rfl, _⟩ := h; rfl)
    | (obtain ⟨_, _, _, _, _, _, _, _, rfl, _⟩ := h; rfl)
    | (obtain ⟨_, _, _, _, _, _, _, _, _, rfl, _⟩ := h; rfl)
    | (unfold sp_thing at h; split at h <;> first | rfl | exact h.elim)) (fun _ _ _ _ _ _ us hl => match us, hl with | [_], _ => rfl) (fun f cd A outer s H E hG hr => t_thing (k := 14) (by omega) T (c_dip T) (c_odd T) (c_pick T) (c_any T) (c_bent T) f cd A outer s H E hG hr) r_thing
theorem c_law (T : Tx K mg) : Can P w K mg base 16 "law" s_law ["_law_script"] sp_law :=
  can_of T.h_law sc_law (fun ds s Q h => by
    first
    | (obtain ⟨_, rfl, _⟩ := h; rfl)
    | (obtain ⟨_, _, rfl, _⟩ := h; rfl)
    | (obtain ⟨_, _, _, rfl, _⟩ := h; rfl)
    | (obtain ⟨_, _, _, _, rfl, _⟩ := h; rfl)
    | (obtain ⟨_, _, _, _, _, rfl, _⟩ := h; rfl)
    | (obtain ⟨_, _, _, _, _, _, rfl, _⟩ := h; rfl)
    | (obtain ⟨_, _, _, _, _, _, _, rfl, _⟩ := h; rfl)
    | (obtain ⟨_, _, _, _, _, _, _, _, rfl, _⟩ := h; rfl)
    | (obtain ⟨_, _, _, _, _, _, _, _, _, rfl, _⟩ := h; rfl)
    | (unfold sp_law at h; split at h <;> first | rfl | exact h.elim)) (fun _ _ _ _ _ _ us hl => match us, hl with | [_], _ => rfl) (fun f cd A outer s H E hG hr => t_law (k := 15) (by omega) T (c_spring T) (c_thing T) (c_deep T) (c_dip T) (c_is_pick T) f cd A outer s H E hG hr) r_law
end
end K42
namespace K42
open PySem PySem.Spec PyProof.Rows L2 DL LB
theorem has_mk {K : PySem.W.Frag} {h : Heap} {mg : Str → Option Value} {x : Str} {st : Stmt} {f : Addr} {od an : Option Addr} {sl : Array (Option Value)} {oc kV dc pm cd ct : Value} (X : K.In h) (G : h.Ns mainGlobals mg)
    (a : PySem.W.nsIn K mainGlobals x = some (some (.ref f))) (l : K.lookup f = some ⟨oc, od, .func (PySem.W.fnOf x x (defArgs st) (defBody st) (defScope st) .none kV dc pm an cd ct), sl⟩) (c : PySem.W.codeIn K cd x = true) (k : PySem.W.keepIn K (.ref f) = true) : Has K mg x st :=
  ⟨f, _, PySem.W.mg_of X G a, fun_mk l c k⟩
theorem law_mk {P : Program} {w : World} {K : PySem.W.Frag} {h : Heap} {mg : Str → Option Value} {fa f : Addr} {od an : Option Addr} {sl : Array (Option Value)} {oc kV dc pm cd ct : Value} (X : K.In h) (G : h.Ns mainGlobals mg) (hfa : mg "law" = some (.ref fa)) (T : Tx K mg)
    (a : PySem.W.nsIn K mainGlobals "law" = some (some (.ref f))) (l : K.lookup f = some ⟨oc, od, .func (PySem.W.fnOf "law" "law" (defArgs s_law) (defBody s_law) (defScope s_law) .none kV dc pm an cd ct), sl⟩) (c : PySem.W.codeIn K cd "law" = true) (k : PySem.W.keepIn K (.ref f) = true) :
    ∃ fd : FuncData, (∀ (s : Shared) (u : Value), BindsTo s fd ⟨[u], []⟩ [("_law_script", u)]) ∧ ∀ base : Heap, K.In base → base.Ns mainGlobals mg → FnD P w K mg base 16 fa fd ["_law_script"] sp_law := by
  have e := hfa.symm.trans (PySem.W.mg_of X G a)
  cases e
  exact ⟨PySem.W.fnOf "law" "law" (defArgs s_law) (defBody s_law) (defScope s_law) .none kV dc pm an cd ct, fun s v => .of_eq rfl, fun base _ _ => fnD_ok (fun_mk l c k) sc_law (fun ds s Q h => by
    unfold sp_law at h
    split at h <;> first | rfl | exact h.elim) (fun cd A outer s H E hG hr => t_law (k := 15) (by omega) T (c_spring T) (c_thing T) (c_deep T) (c_dip T) (c_is_pick T) fa cd A outer s H E hG hr) r_law⟩
end K42
open PySem PySem.W PyProof.Rows
set_option maxHeartbeats 0 in
theorem PySem.Challenge.cw_bentalike_k42_whole_picks_of_anything_holds : PySem.Challenge.rw_bentalike_k42_whole_picks_of_anything.Holds := by
  w_on; o_law; k_head; (case hw => w_witness2)
  k_fill
  refine DL.walkG (l := PySem.Challenge.rw_bentalike_k42_whole_picks_of_anything) (n := 63) (k := 16) (x := "_law_script") (sp := K42.sp_law) rfl (by decide) rfl ⟨rfl, by decide, by decide⟩ (fun w h Y => PySem.W.kIn_of Y) ?F (fun ns hl => ⟨hl, fun _ => rfl⟩)
  case F =>
    intro w mg fa h KX G hmg
    have n_abs : mg "abs" = none := PySem.W.mg_none_of KX G (by k_is)
    have n_divmod : mg "divmod" = none := PySem.W.mg_none_of KX G (by k_is)
    have n_int : mg "int" = none := PySem.W.mg_none_of KX G (by k_is)
    have n_isinstance : mg "isinstance" = none := PySem.W.mg_none_of KX G (by k_is)
    have n_len : mg "len" = none := PySem.W.mg_none_of KX G (by k_is)
    have n_list : mg "list" = none := PySem.W.mg_none_of KX G (by k_is)
    have n_max : mg "max" = none := PySem.W.mg_none_of KX G (by k_is)
    have n_min : mg "min" = none := PySem.W.mg_none_of KX G (by k_is)
    have n_range : mg "range" = none := PySem.W.mg_none_of KX G (by k_is)
    have n_repr : mg "repr" = none := PySem.W.mg_none_of KX G (by k_is)
    have n_str : mg "str" = none := PySem.W.mg_none_of KX G (by k_is)
    have n_tuple : mg "tuple" = none := PySem.W.mg_none_of KX G (by k_is)
    refine' K42.law_mk KX G hmg ⟨n_abs, n_divmod, n_int, n_isinstance, n_len, n_list, n_max, n_min, n_range, n_repr, n_str, n_tuple, DL.gtup_mk KX G ?ga_NAMES ?gl_NAMES ?gc_NAMES ?gd_NAMES ?gs_NAMES ?gv_NAMES, DL.gtup_mk KX G ?ga_NEARBY ?gl_NEARBY ?gc_NEARBY ?gd_NEARBY ?gs_NEARBY ?gv_NEARBY, DL.gtup_mk KX G ?ga_PAIRED ?gl_PAIRED ?gc_PAIRED ?gd_PAIRED ?gs_PAIRED ?gv_PAIRED, K42.has_mk KX G ?a_is_row ?l_is_row ?c_is_row ?k_is_row, K42.has_mk KX G ?a_is_name ?l_is_name ?c_is_name ?k_is_name, DL.hasD_mk KX G ?a_is_pick_form ?l_is_pick_form ?c_is_pick_form ?k_is_pick_form ?hd_is_pick_form ?lT_is_pick_form ?oT_is_pick_form ?vT_is_pick_form, K42.has_mk KX G ?a_is_pick ?l_is_pick ?c_is_pick ?k_is_pick, K42.has_mk KX G ?a_spring ?l_spring ?c_spring ?k_spring, K42.has_mk KX G ?a_dip ?l_dip ?c_dip ?k_dip, K42.has_mk KX G ?a_any ?l_any ?c_any ?k_any, K42.has_mk KX G ?a_deep ?l_deep ?c_deep ?k_deep, K42.has_mk KX G ?a_pick ?l_pick ?c_pick ?k_pick, K42.has_mk KX G ?a_odd ?l_odd ?c_odd ?k_odd, K42.has_mk KX G ?a_bent ?l_bent ?c_bent ?k_bent, K42.has_mk KX G ?a_thing ?l_thing ?c_thing ?k_thing, K42.has_mk KX G ?a_law ?l_law ?c_law ?k_law⟩ ?a ?l ?c ?k
    (case ga_NAMES => k_is); (case gl_NAMES => k_is); (case gc_NAMES => rfl); (case gd_NAMES => rfl); (case gs_NAMES => decide); (case gv_NAMES => repeat (first | exact .nil | refine .cons ⟨_, rfl⟩ ?_))
    (case ga_NEARBY => k_is); (case gl_NEARBY => k_is); (case gc_NEARBY => rfl); (case gd_NEARBY => rfl); (case gs_NEARBY => decide); (case gv_NEARBY => repeat (first | exact .nil | refine .cons ⟨_, rfl⟩ ?_))
    (case ga_PAIRED => k_is); (case gl_PAIRED => k_is); (case gc_PAIRED => rfl); (case gd_PAIRED => rfl); (case gs_PAIRED => decide); (case gv_PAIRED => repeat (first | exact .nil | refine .cons ⟨_, rfl⟩ ?_))
    (case a_is_row => k_is); (case l_is_row => k_is); (case c_is_row => k_is); (case k_is_row => k_is)
    (case a_is_name => k_is); (case l_is_name => k_is); (case c_is_name => k_is); (case k_is_name => k_is)
    (case a_is_pick_form => k_is); (case l_is_pick_form => k_is); (case c_is_pick_form => k_is); (case k_is_pick_form => k_is); (case hd_is_pick_form => simp); (case lT_is_pick_form => k_is); (case oT_is_pick_form => rfl); (case vT_is_pick_form => repeat (first | exact .nil | refine .cons ⟨_, rfl⟩ ?_))
    (case a_is_pick => k_is); (case l_is_pick => k_is); (case c_is_pick => k_is); (case k_is_pick => k_is)
    (case a_spring => k_is); (case l_spring => k_is); (case c_spring => k_is); (case k_spring => k_is)
    (case a_dip => k_is); (case l_dip => k_is); (case c_dip => k_is); (case k_dip => k_is)
    (case a_any => k_is); (case l_any => k_is); (case c_any => k_is); (case k_any => k_is)
    (case a_deep => k_is); (case l_deep => k_is); (case c_deep => k_is); (case k_deep => k_is)
    (case a_pick => k_is); (case l_pick => k_is); (case c_pick => k_is); (case k_pick => k_is)
    (case a_odd => k_is); (case l_odd => k_is); (case c_odd => k_is); (case k_odd => k_is)
    (case a_bent => k_is); (case l_bent => k_is); (case c_bent => k_is); (case k_bent => k_is)
    (case a_thing => k_is); (case l_thing => k_is); (case c_thing => k_is); (case k_thing => k_is)
    (case a_law => k_is); (case l_law => k_is); (case c_law => k_is); (case k_law => k_is)
    (case a => k_is); (case l => k_is); (case c => k_is); (case k => k_is)
