import PyProof.Rows.All
import HandS.ForExc
import HandS.ForMost
import HandS.IsInst
import HandS.Gcd
import HandS.Wide
import HandS.WideBits
import HandS.TupAny
import HandS.Style
import PyProof.ReprRoads
import KE.KMathGC
import HandS.Deep
import HandS.SortInts
import KE.GoesEnum
import KE.SortData
import PySem.Challenge.RW_bentalike_k04_directions_in_turn_by_own
set_option Elab.async false
set_option linter.all false
set_option maxRecDepth 100000
set_option maxHeartbeats 4000000
namespace DL
open PySem PySem.Spec PyProof.Rows L2
/-- what a name may hold: a piece of data, a list that may still change, the script -/
inductive D where
  | d (x : PyData)
  | own (a : Addr)
  | scr (ns : List Int)
abbrev Sto := Addr → Option (List D)
def put (st : Sto) (a : Addr) (xs : List D) : Sto := fun b => if b = a then some xs else st b
theorem put_same {st : Sto} {a : Addr} {xs : List D} : put st a xs a = some xs := if_pos rfl
theorem put_ne {st : Sto} {a b : Addr} {xs : List D} (h : b ≠ a) : put st a xs b = st b := if_neg h
mutual
inductive Dv (K : PySem.W.Frag) (st : Sto) (H : Hp) : V → PyData → Prop
  | non : Dv K st H .non .none
  | bl (b : Bool) : Dv K st H (.bl b) (.bool b)
  | int (i : Int) : Dv K st H (.int i) (.int i)
  | str (x : Str) : Dv K st H (.str x) (.str x)
  | lst {a : Addr} {xs : List V} {ds : List PyData} (h : H a = some (.lst xs)) (f : st a = none) (r : Dvs K st H xs ds) : Dv K st H (.ref a) (.list ds)
  | tup {a : Addr} {xs : List V} {ds : List PyData} (h : SqT K H a xs) (r : Dvs K st H xs ds) : Dv K st H (.ref a) (.tuple ds)
  | dic {a : Addr} {kvs : List (Key × V)} {ps : List (PyData × PyData)} (h : H a = some (.dK kvs)) (f : st a = none)
      (r : Dvs K st H (kvs.map fun p => kV p.1) (ps.map (·.1))) (q : Dvs K st H (kvs.map (·.2)) (ps.map (·.2))) : Dv K st H (.ref a) (.dict ps)
inductive Dvs (K : PySem.W.Frag) (st : Sto) (H : Hp) : List V → List PyData → Prop
  | nil : Dvs K st H [] []
  | cons {v : V} {vs : List V} {x : PyData} {xs : List PyData} (h : Dv K st H v x) (t : Dvs K st H vs xs) : Dvs K st H (v :: vs) (x :: xs)
end
inductive DvD (K : PySem.W.Frag) (st : Sto) (H : Hp) : V → D → Prop
  | d {v : V} {x : PyData} (h : Dv K st H v x) : DvD K st H v (.d x)
  | own (a : Addr) : DvD K st H (.ref a) (.own a)
  | scr {a : Addr} {ns : List Int} (h : SqL K H a (ns.map V.int)) (f : (∃ o, H a = some (.frz o (.lst (ns.map V.int)))) ∨ SqL K (fun _ => none) a (ns.map V.int)) : DvD K st H (.ref a) (.scr ns)
abbrev DvsD (K : PySem.W.Frag) (st : Sto) (H : Hp) : List V → List D → Prop := Paired (DvD K st H)
/-- the store is held -/
def SR (K : PySem.W.Frag) (st : Sto) (H : Hp) : Prop := ∀ a ds, st a = some ds → ∃ xs, H a = some (.lst xs) ∧ DvsD K st H xs ds
/-- what was laid and not owned stays so -/
def Fr (st : Sto) (H : Hp) (st' : Sto) (H' : Hp) : Prop := ∀ b o, H b = some o → st b = none → H' b = some o ∧ st' b = none
theorem Fr.refl (st : Sto) (H : Hp) : Fr st H st H := fun _ _ h f => ⟨h, f⟩
theorem Fr.trans {st st1 st2 : Sto} {H H1 H2 : Hp} (a : Fr st H st1 H1) (b : Fr st1 H1 st2 H2) : Fr st H st2 H2 := fun c o h f =>
  let ⟨h1, f1⟩ := a c o h f
  b c o h1 f1
theorem SR.free {K : PySem.W.Frag} {st : Sto} {H : Hp} (S : SR K st H) {a : Addr} {o : HO} (h : H a = some o) (n : ∀ xs, o ≠ .lst xs) : st a = none := by
  cases e : st a with
  | none => rfl
  | some ds =>
    obtain ⟨xs, q, _⟩ := S a ds e
    rw [h] at q
    exact absurd (Option.some.inj q) (n xs)
theorem SR.free0 {K : PySem.W.Frag} {st : Sto} {H : Hp} (S : SR K st H) {a : Addr} (h : H a = none) : st a = none := by
  cases e : st a with
  | none => rfl
  | some ds =>
    obtain ⟨xs, q, _⟩ := S a ds e
    rw [h] at q
    cases q
section
variable {K : PySem.W.Frag} {st st' : Sto} {H H' : Hp}
theorem sqT_mono (F : Fr st H st' H') (S : SR K st H) {a : Addr} {xs : List V} (h : SqT K H a xs) : SqT K H' a xs := by
  rcases h with (h | ⟨o, h⟩) | h
  · exact .inl (.inl (F a _ h (S.free h fun xs z => nomatch z)).1)
  · exact .inl (.inr ⟨o, (F a _ h (S.free h fun xs z => nomatch z)).1⟩)
  · exact .inr h
mutual
theorem Dv.mono (F : Fr st H st' H') (S : SR K st H) : ∀ {v : V} {x : PyData}, Dv K st H v x → Dv K st' H' v x
  | _, _, .non => .non
  | _, _, .bl b => .bl b
  | _, _, .int i => .int i
  | _, _, .str x => .str x
  | _, _, .lst h f r => .lst (F _ _ h f).1 (F _ _ h f).2 (Dvs.mono F S r)
  | _, _, .tup h r => .tup (sqT_mono F S h) (Dvs.mono F S r)
  | _, _, .dic h f r q => .dic (F _ _ h f).1 (F _ _ h f).2 (Dvs.mono F S r) (Dvs.mono F S q)
theorem Dvs.mono (F : Fr st H st' H') (S : SR K st H) : ∀ {vs : List V} {xs : List PyData}, Dvs K st H vs xs → Dvs K st' H' vs xs
  | _, _, .nil => .nil
  | _, _, .cons h t => .cons (Dv.mono F S h) (Dvs.mono F S t)
end
theorem DvD.mono (F : Fr st H st' H') (S : SR K st H) {v : V} {x : D} (h : DvD K st H v x) : DvD K st' H' v x := by
  cases h with
  | d h => exact .d (h.mono F S)
  | own a => exact .own a
  | scr h f =>
    rcases f with ⟨o, f⟩ | f
    · have q := (F _ _ f (S.free f fun xs z => nomatch z)).1
      exact .scr (.inl (.inr ⟨o, q⟩)) (.inl ⟨o, q⟩)
    · refine .scr ?_ (.inr f)
      rcases f with (f | ⟨o, f⟩) | f
      · cases f
      · cases f
      · exact .inr f
theorem DvsD.mono (F : Fr st H st' H') (S : SR K st H) : ∀ {vs : List V} {xs : List D}, DvsD K st H vs xs → DvsD K st' H' vs xs
  | _, _, .nil => .nil
  | _, _, .cons h t => .cons (h.mono F S) (DvsD.mono F S t)
theorem Dvs.length : ∀ {vs : List V} {xs : List PyData}, Dvs K st H vs xs → vs.length = xs.length
  | _, _, .nil => rfl
  | _, _, .cons _ t => by rw [List.length_cons, List.length_cons, Dvs.length t]
theorem Dvs.of : ∀ {vs : List V} {xs : List PyData}, DvsD K st H vs (xs.map D.d) → Dvs K st H vs xs
  | [], [], _ => .nil
  | _ :: _, _ :: _, .cons (.d h) t => .cons h (Dvs.of t)
theorem Dvs.to : ∀ {vs : List V} {xs : List PyData}, Dvs K st H vs xs → DvsD K st H vs (xs.map D.d)
  | _, _, .nil => .nil
  | _, _, .cons h t => .cons (.d h) (Dvs.to t)
theorem Dvs.append : ∀ {vs ws : List V} {xs ys : List PyData}, Dvs K st H vs xs → Dvs K st H ws ys → Dvs K st H (vs ++ ws) (xs ++ ys)
  | _, _, _, _, .nil, q => q
  | _, _, _, _, .cons h t, q => .cons h (Dvs.append t q)
theorem Dvs.drop : ∀ {vs : List V} {xs : List PyData} (n : Nat), Dvs K st H vs xs → Dvs K st H (vs.drop n) (xs.drop n)
  | _, _, 0, r => r
  | _, _, _ + 1, .nil => .nil
  | _, _, n + 1, .cons _ t => Dvs.drop n t
theorem Dvs.take : ∀ {vs : List V} {xs : List PyData} (n : Nat), Dvs K st H vs xs → Dvs K st H (vs.take n) (xs.take n)
  | _, _, 0, _ => .nil
  | _, _, _ + 1, .nil => .nil
  | _, _, n + 1, .cons h t => .cons h (Dvs.take n t)
theorem Dvs.get : ∀ {vs : List V} {xs : List PyData} {i : Nat} {x : PyData}, Dvs K st H vs xs → xs[i]? = some x → ∃ v, vs[i]? = some v ∧ Dv K st H v x
  | _, _, _, _, .nil, e => by simp at e
  | _, _, 0, _, .cons h _, e => by
    simp at e
    subst e
    exact ⟨_, rfl, h⟩
  | _, _, i + 1, x, .cons _ t, e => by
    obtain ⟨v, h1, h2⟩ := Dvs.get (i := i) (x := x) t (by simpa using e)
    exact ⟨v, by simpa using h1, h2⟩
theorem DvsD.get : ∀ {vs : List V} {xs : List D} {i : Nat} {x : D}, DvsD K st H vs xs → xs[i]? = some x → ∃ v, vs[i]? = some v ∧ DvD K st H v x
  | _, _, _, _, .nil, e => by simp at e
  | _, _, 0, _, .cons h _, e => by
    simp at e
    subst e
    exact ⟨_, rfl, h⟩
  | _, _, i + 1, x, .cons _ t, e => by
    obtain ⟨v, h1, h2⟩ := DvsD.get (i := i) (x := x) t (by simpa using e)
    exact ⟨v, by simpa using h1, h2⟩
theorem DvsD.snoc : ∀ {vs : List V} {xs : List D} {v : V} {x : D}, DvsD K st H vs xs → DvD K st H v x → DvsD K st H (vs ++ [v]) (xs ++ [x])
  | _, _, _, _, .nil, q => .cons q .nil
  | _, _, _, _, .cons h t, q => .cons h (DvsD.snoc t q)
theorem DvsD.set : ∀ {vs : List V} {xs : List D} {v : V} {x : D} (i : Nat), DvsD K st H vs xs → DvD K st H v x → DvsD K st H (vs.set i v) (xs.set i x)
  | _, _, _, _, _, .nil, _ => .nil
  | _, _, _, _, 0, .cons _ t, q => .cons q t
  | _, _, _, _, i + 1, .cons h t, q => .cons h (DvsD.set i t q)
end
/-! ### laying things -/
section
variable {K : PySem.W.Frag} {st : Sto} {H : Hp} {p : Addr} {o : HO}
theorem fr_new (hp : H p = none) : Fr st H st (upd H p o) := fun b u h f => ⟨by rw [upd_ne (ne_of_none h hp)]; exact h, f⟩
theorem sr_new (S : SR K st H) (hp : H p = none) : SR K st (upd H p o) := fun a ds e => by
  obtain ⟨xs, h, r⟩ := S a ds e
  exact ⟨xs, by rw [upd_ne (ne_of_none h hp)]; exact h, r.mono (fr_new hp) S⟩
theorem fr_own (hp : H p = none) {ds : List D} : Fr st H (put st p ds) (upd H p o) := fun b u h f => by
  have n := ne_of_none h hp
  exact ⟨by rw [upd_ne n]; exact h, by rw [put_ne n]; exact f⟩
theorem sr_own (S : SR K st H) (hp : H p = none) {xs : List V} {ds : List D} (r : DvsD K st H xs ds) : SR K (put st p ds) (upd H p (.lst xs)) := fun a es e => by
  by_cases h : a = p
  · subst h
    rw [put_same] at e
    cases e
    exact ⟨xs, upd_same, r.mono (fr_own hp) S⟩
  · rw [put_ne h] at e
    obtain ⟨ys, q, r2⟩ := S a es e
    exact ⟨ys, by rw [upd_ne h]; exact q, r2.mono (fr_own hp) S⟩
/-- an owned list changes -/
theorem fr_put {ds es : List D} (ho : st p = some ds) : Fr st H (put st p es) (upd H p o) := fun b u h f => by
  have n : b ≠ p := fun z => by
    rw [z, ho] at f
    cases f
  exact ⟨by rw [upd_ne n]; exact h, by rw [put_ne n]; exact f⟩
theorem sr_put (S : SR K st H) {ds es : List D} (ho : st p = some ds) {xs : List V} (r : DvsD K st H xs es) : SR K (put st p es) (upd H p (.lst xs)) := fun a gs e => by
  by_cases h : a = p
  · subst h
    rw [put_same] at e
    cases e
    exact ⟨xs, upd_same, r.mono (fr_put ho) S⟩
  · rw [put_ne h] at e
    obtain ⟨ys, q, r2⟩ := S a gs e
    exact ⟨ys, by rw [upd_ne h]; exact q, r2.mono (fr_put ho) S⟩
end
/-! ### the judgements over data -/
abbrev Ed := List (Option D)
abbrev Kd := D → Sto → Prop
abbrev TEd := Ed → Sto → Kd → Prop
abbrev TTd := Ed → Sto → (Bool → Sto → Prop) → Prop
abbrev TAd := Ed → Sto → (List D → Sto → Prop) → Prop
structure EndsD where
  nx : Ed → Sto → Prop
  rt : Kd
  bk : Ed → Sto → Prop := fun _ _ => False
  ct : Ed → Sto → Prop := fun _ _ => False
abbrev TSd := EndsD → Ed → Sto → Prop
structure RE (K : PySem.W.Frag) (st : Sto) (H : Hp) (σ : L2.St) (e : Ed) : Prop where
  len : σ.length = e.length
  at_ : ∀ (i : Nat) (d : D), e[i]? = some (some d) → ∃ v, σ[i]? = some (some v) ∧ DvD K st H v d
theorem RE.mono {K : PySem.W.Frag} {st st' : Sto} {H H' : Hp} {σ : L2.St} {e : Ed} (r : RE K st H σ e) (F : Fr st H st' H') (S : SR K st H) : RE K st' H' σ e :=
  ⟨r.len, fun i d h => let ⟨v, h1, h2⟩ := r.at_ i d h; ⟨v, h1, h2.mono F S⟩⟩
theorem RE.set {K : PySem.W.Frag} {st : Sto} {H : Hp} {σ : L2.St} {e : Ed} (r : RE K st H σ e) {i : Nat} {v : V} {d : D} (h : DvD K st H v d) : RE K st H (σ.set i (some v)) (e.set i (some d)) := by
  refine ⟨by rw [List.length_set, List.length_set]; exact r.len, fun j x hj => ?_⟩
  by_cases hi : i = j
  · subst hi
    rw [List.getElem?_set] at hj ⊢
    rw [if_pos rfl] at hj ⊢
    rw [r.len]
    split at hj
    · rename_i hl
      rw [if_pos hl]
      cases Option.some.inj (Option.some.inj hj)
      exact ⟨v, rfl, h⟩
    · cases hj
  · rw [List.getElem?_set_ne hi] at hj ⊢
    exact r.at_ j x hj
/-- the store that is seen and one that is not -/
def jn (st hid : Sto) : Sto := fun a => match st a with
  | some ds => some ds
  | none => hid a
theorem jn_some {st hid : Sto} {a : Addr} {ds : List D} (h : st a = some ds) : jn st hid a = some ds := by
  unfold jn
  rw [h]
theorem jn_none {st hid : Sto} {a : Addr} (h : st a = none) : jn st hid a = hid a := by
  unfold jn
  rw [h]
theorem jn_put {st hid : Sto} {a : Addr} {ds : List D} : jn (put st a ds) hid = put (jn st hid) a ds := by
  funext b
  by_cases h : b = a
  · subst h
    rw [put_same, jn_some put_same]
  · rw [put_ne h]
    unfold jn
    rw [put_ne h]
theorem jn_free {st hid : Sto} {a : Addr} (h : jn st hid a = none) : st a = none ∧ hid a = none := by
  unfold jn at h
  cases e : st a with
  | some ds =>
    rw [e] at h
    cases h
  | none =>
    rw [e] at h
    exact ⟨rfl, h⟩
def cut (st : Sto) (a : Addr) : Sto := fun b => if b = a then none else st b
theorem cut_same {st : Sto} {a : Addr} : cut st a a = none := if_pos rfl
theorem cut_ne {st : Sto} {a b : Addr} (h : b ≠ a) : cut st a b = st b := if_neg h
structure Sx (K : PySem.W.Frag) (st hid : Sto) (H : Hp) : Prop where
  dj : ∀ a, hid a ≠ none → st a = none
  sr : SR K (jn st hid) H
abbrev FrX (st hid : Sto) (H : Hp) (st' : Sto) (H' : Hp) : Prop := Fr (jn st hid) H (jn st' hid) H'
section
variable {K : PySem.W.Frag} {st hid : Sto} {H : Hp} {p : Addr} {o : HO}
theorem Sx.new (S : Sx K st hid H) (hp : H p = none) : Sx K st hid (upd H p o) := ⟨S.dj, sr_new S.sr hp⟩
theorem Sx.own (S : Sx K st hid H) (hp : H p = none) {xs : List V} {ds : List D} (r : DvsD K (jn st hid) H xs ds) : Sx K (put st p ds) hid (upd H p (.lst xs)) := by
  refine ⟨fun a h => ?_, by rw [jn_put]; exact sr_own S.sr hp r⟩
  by_cases e : a = p
  · subst e
    exact absurd (jn_free (S.sr.free0 hp)).2 h
  · rw [put_ne e]
    exact S.dj a h
theorem fx_own (hp : H p = none) {ds : List D} : FrX st hid H (put st p ds) (upd H p o) := by
  unfold FrX
  rw [jn_put]
  exact fr_own hp
theorem Sx.store (S : Sx K st hid H) {ds es : List D} (ho : st p = some ds) {xs : List V} (r : DvsD K (jn st hid) H xs es) : Sx K (put st p es) hid (upd H p (.lst xs)) := by
  refine ⟨fun a h => ?_, by rw [jn_put]; exact sr_put S.sr (jn_some ho) r⟩
  by_cases e : a = p
  · subst e
    have := S.dj a h
    rw [ho] at this
    cases this
  · rw [put_ne e]
    exact S.dj a h
theorem fx_put {ds es : List D} (ho : st p = some ds) : FrX st hid H (put st p es) (upd H p o) := by
  unfold FrX
  rw [jn_put]
  exact fr_put (jn_some ho)
theorem Sx.frz (S : Sx K st hid H) {ds : List D} (ho : st p = some ds) : Sx K (cut st p) hid H ∧ FrX st hid H (cut st p) H ∧ jn (cut st p) hid p = none := by
  have hp : hid p = none := by
    cases e : hid p with
    | none => rfl
    | some es =>
      have := S.dj p (by rw [e]; exact fun z => nomatch z)
      rw [ho] at this
      cases this
  have hj : ∀ b, b ≠ p → jn (cut st p) hid b = jn st hid b := fun b n => by
    unfold jn
    rw [cut_ne n]
  have hjp : jn (cut st p) hid p = none := (jn_none cut_same).trans hp
  have F : FrX st hid H (cut st p) H := fun b o h f => ⟨h, by
    by_cases n : b = p
    · rw [n]
      exact hjp
    · rw [hj b n]
      exact f⟩
  refine ⟨⟨fun a h => ?_, fun a es e => ?_⟩, F, hjp⟩
  · by_cases n : a = p
    · rw [n]
      exact cut_same
    · rw [cut_ne n]
      exact S.dj a h
  · have n : a ≠ p := fun z => by
      rw [z, hjp] at e
      cases e
    rw [hj a n] at e
    obtain ⟨xs, q, r⟩ := S.sr a es e
    exact ⟨xs, q, r.mono F S.sr⟩
theorem Sx.at_ (S : Sx K st hid H) {ds : List D} (ho : st p = some ds) : ∃ xs, H p = some (.lst xs) ∧ DvsD K (jn st hid) H xs ds := S.sr p ds (jn_some ho)
end
/-- what a rule over data promises of a value -/
abbrev Go (K : PySem.W.Frag) (st hid : Sto) (H : Hp) (Qd : Kd) (Q : VK) : Prop := ∀ v H' d st', FrX st hid H st' H' → Sx K st' hid H' → DvD K (jn st' hid) H' v d → Qd d st' → Q v H'
abbrev GoT (K : PySem.W.Frag) (st hid : Sto) (H : Hp) (Qd : Bool → Sto → Prop) (Q : Bool → Hp → Prop) : Prop := ∀ b H' st', FrX st hid H st' H' → Sx K st' hid H' → Qd b st' → Q b H'
abbrev GoA (K : PySem.W.Frag) (st hid : Sto) (H : Hp) (Qd : List D → Sto → Prop) (Q : List V → Hp → Prop) : Prop := ∀ vs H' ds st', FrX st hid H st' H' → Sx K st' hid H' → DvsD K (jn st' hid) H' vs ds → Qd ds st' → Q vs H'
abbrev GoS (K : PySem.W.Frag) (st hid : Sto) (H : Hp) (Qd : Ed → Sto → Prop) (Q : L2.St → Hp → Prop) : Prop := ∀ σ' H' e' st', FrX st hid H st' H' → Sx K st' hid H' → RE K (jn st' hid) H' σ' e' → Qd e' st' → Q σ' H'
def up (K : PySem.W.Frag) (t : TEd) : TE := fun σ H Q => ∃ e st hid Qd, RE K (jn st hid) H σ e ∧ Sx K st hid H ∧ t e st Qd ∧ Go K st hid H Qd Q
def upT (K : PySem.W.Frag) (t : TTd) : TT := fun σ H Q => ∃ e st hid Qd, RE K (jn st hid) H σ e ∧ Sx K st hid H ∧ t e st Qd ∧ GoT K st hid H Qd Q
def upA (K : PySem.W.Frag) (t : TAd) : TA := fun σ H Q => ∃ e st hid Qd, RE K (jn st hid) H σ e ∧ Sx K st hid H ∧ t e st Qd ∧ GoA K st hid H Qd Q
def upS (K : PySem.W.Frag) (t : TSd) : TS := fun E σ H => ∃ e st hid Ed, RE K (jn st hid) H σ e ∧ Sx K st hid H ∧ t Ed e st ∧ GoS K st hid H Ed.nx E.nx ∧ Go K st hid H Ed.rt E.rt ∧ GoS K st hid H Ed.bk E.bk ∧ GoS K st hid H Ed.ct E.ct
section
variable {K : PySem.W.Frag} {st hid st1 : Sto} {H H1 : Hp}
theorem Go.mono {Qd : Kd} {Q : VK} (g : Go K st hid H Qd Q) (F : FrX st hid H st1 H1) : Go K st1 hid H1 Qd Q := fun v H' d st' F' => g v H' d st' (Fr.trans F F')
theorem GoT.mono {Qd : Bool → Sto → Prop} {Q : Bool → Hp → Prop} (g : GoT K st hid H Qd Q) (F : FrX st hid H st1 H1) : GoT K st1 hid H1 Qd Q := fun b H' st' F' => g b H' st' (Fr.trans F F')
theorem GoA.mono {Qd : List D → Sto → Prop} {Q : List V → Hp → Prop} (g : GoA K st hid H Qd Q) (F : FrX st hid H st1 H1) : GoA K st1 hid H1 Qd Q := fun b H' ds st' F' => g b H' ds st' (Fr.trans F F')
theorem GoS.mono {Qd : Ed → Sto → Prop} {Q : L2.St → Hp → Prop} (g : GoS K st hid H Qd Q) (F : FrX st hid H st1 H1) : GoS K st1 hid H1 Qd Q := fun v H' d st' F' => g v H' d st' (Fr.trans F F')
theorem Go.now {Qd : Kd} {Q : VK} (g : Go K st hid H Qd Q) {v : V} {d : D} (S : Sx K st hid H) (h : DvD K (jn st hid) H v d) (q : Qd d st) : Q v H := g v H d st (Fr.refl _ _) S h q
/-- a new thing laid -/
theorem Go.new {Qd : Kd} {Q : VK} (g : Go K st hid H Qd Q) {p : Addr} {o : HO} {d : D} (S : Sx K st hid H) (hp : H p = none) (h : DvD K (jn st hid) (upd H p o) (.ref p) d) (q : Qd d st) : Q (.ref p) (upd H p o) := g _ _ d st (fr_new hp) (S.new hp) h q
end
abbrev PD (X : Cx) (e : Expr) (t : TEd) : Prop := PE X e (up X.K t)
abbrev PDT (X : Cx) (e : Expr) (t : TTd) : Prop := PT X e (upT X.K t)
abbrev PDW (X : Cx) (e : Expr) (t : TTd) : Prop := PW X e (upT X.K t)
abbrev PDA (X : Cx) (es : List Expr) (t : TAd) : Prop := PA X es (upA X.K t)
abbrev PDS (X : Cx) (s : Stmt) (t : TSd) : Prop := PS X s (upS X.K t)
abbrev PDSs (X : Cx) (s : List Stmt) (t : TSd) : Prop := PSs X s (upS X.K t)
theorem PE.imp {X : Cx} {e : Expr} {t t' : TE} (h : PE X e t) (i : ∀ σ H Q, t' σ H Q → t σ H Q) : PE X e t' := ⟨fun pins s σ H Q I w => h.run pins s σ H Q I (i σ H Q w)⟩
theorem PT.imp {X : Cx} {e : Expr} {t t' : TT} (h : PT X e t) (i : ∀ σ H Q, t' σ H Q → t σ H Q) : PT X e t' := ⟨fun pins s σ H Q I w => h.run pins s σ H Q I (i σ H Q w)⟩
theorem PW.imp {X : Cx} {e : Expr} {t t' : TT} (h : PW X e t) (i : ∀ σ H Q, t' σ H Q → t σ H Q) : PW X e t' := ⟨fun wh pins s σ H Q I w => h.run wh pins s σ H Q I (i σ H Q w)⟩
theorem PA.imp {X : Cx} {e : List Expr} {t t' : TA} (h : PA X e t) (i : ∀ σ H Q, t' σ H Q → t σ H Q) : PA X e t' := ⟨fun pos pins s σ H Q I w => h.run pos pins s σ H Q I (i σ H Q w)⟩
theorem PS.imp {X : Cx} {e : Stmt} {t t' : TS} (h : PS X e t) (i : ∀ D σ H, t' D σ H → t D σ H) : PS X e t' := ⟨fun pins s σ H Q I w => h.run pins s σ H Q I (i Q σ H w)⟩
theorem PSs.imp {X : Cx} {e : List Stmt} {t t' : TS} (h : PSs X e t) (i : ∀ D σ H, t' D σ H → t D σ H) : PSs X e t' := ⟨fun pins s σ H Q I w => h.run pins s σ H Q I (i Q σ H w)⟩
/-! ### names, constants -/
section
variable {X : Cx} {pos : Pos} {a b c : Expr} {ta tb tc : TEd}
def dVar (i : Nat) : TEd := fun e st Q => ∃ d, e[i]? = some (some d) ∧ Q d st
theorem pd (i : Nat) {x : Str} (hN : X.N[i]? = some x := by rfl) (hv : Vis X.env.scope x := by first | exact Or.inl rfl | exact Or.inr (Or.inl rfl) | exact Or.inr (Or.inr rfl)) (hd : (x == ("__debug__" : Str)) = false := by decide)
    (hcd : (x == ("__classdict__" : Str)) = false := by decide) : PD X (.Name x pos) (dVar i) :=
  PE.imp (pe_var hN hv hd hcd) fun σ H Q ⟨e, st, hid, Qd, re, S, ⟨d, h, q⟩, k⟩ => by
    obtain ⟨v, h1, h2⟩ := re.at_ i d h
    exact ⟨v, h1, k.now S h2 q⟩
def dC (x : PyData) : TEd := fun _ st Q => Q (.d x) st
theorem pd_int {i : Int} {j : Nat} : PD X (.Constant (.int i) j pos) (dC (.int i)) :=
  PE.imp pe_int fun σ H Q ⟨e, st, hid, Qd, re, S, q, k⟩ => k.now S (.d (.int i)) q
theorem pd_bl {b : Bool} {j : Nat} : PD X (.Constant (.bool b) j pos) (dC (.bool b)) :=
  PE.imp pe_bl fun σ H Q ⟨e, st, hid, Qd, re, S, q, k⟩ => k.now S (.d (.bl b)) q
theorem pd_non {j : Nat} : PD X (.Constant .none j pos) (dC .none) :=
  PE.imp pe_non fun σ H Q ⟨e, st, hid, Qd, re, S, q, k⟩ => k.now S (.d .non) q
theorem pd_str {x : Str} {j : Nat} : PD X (.Constant (.str x) j pos) (dC (.str x)) :=
  PE.imp pe_str fun σ H Q ⟨e, st, hid, Qd, re, S, q, k⟩ => k.now S (.d (.str x)) q
end
end DL
namespace DL
open PySem PySem.Spec PyProof.Rows L2
theorem OpR.imp {X : Cx} {f : Value → Value → Sem Value} {r r' : R2} (h : OpR X f r) (i : ∀ x y H Q, r' x y H Q → r x y H Q) : OpR X f r' := fun pins s σ H x y v u Q I rx ry q => h pins s σ H x y v u Q I rx ry (i x y H Q q)
/-! ### lists of things -/
def pures : List D → Option (List PyData)
  | [] => some []
  | .d x :: r => (pures r).map (x :: ·)
  | _ :: _ => none
theorem pures_eq : ∀ {ds : List D} {xs : List PyData}, pures ds = some xs → ds = xs.map D.d
  | [], _, h => by
    cases h
    rfl
  | .d x :: r, xs, h => by
    unfold pures at h
    cases e : pures r with
    | none =>
      rw [e] at h
      cases h
    | some ys =>
      rw [e] at h
      cases h
      rw [pures_eq e]
      rfl
  | .own _ :: _, _, h => by cases h
  | .scr _ :: _, _, h => by cases h
theorem pures_map : ∀ xs : List PyData, pures (xs.map D.d) = some xs
  | [] => rfl
  | x :: xs => by
    show (pures (xs.map D.d)).map (x :: ·) = _
    rw [pures_map xs]
    rfl
/-- a new list: a value, or one that may still change -/
def mkL (ds : List D) (st : Sto) (Q : Kd) : Prop := (∃ xs, pures ds = some xs ∧ Q (.d (.list xs)) st) ∨ (∀ p, st p = none → Q (.own p) (put st p ds))
theorem mkL_go {K : PySem.W.Frag} {st hid : Sto} {H : Hp} {Qd : Kd} {Q : VK} {ds : List D} {xs : List V} {p : Addr} (h : mkL ds st Qd) (S : Sx K st hid H) (hp : H p = none) (r : DvsD K (jn st hid) H xs ds) (k : Go K st hid H Qd Q) : Q (.ref p) (upd H p (.lst xs)) := by
  have fp := jn_free (S.sr.free0 hp)
  rcases h with ⟨ys, e, q⟩ | q
  · have e2 := pures_eq e
    subst e2
    exact k.new S hp (.d (.lst upd_same (S.sr.free0 hp) ((Dvs.of r).mono (fr_new hp) S.sr))) q
  · exact k _ _ (.own p) _ (fx_own hp) (S.own hp r) (.own p) (q p fp.1)
section
variable {X : Cx} {pos p p2 : Pos} {a b c e : Expr} {es rest : List Expr} {ta tb tc te : TEd} {t : TAd}
/-! ### argument lists, displays -/
def dNil : TAd := fun _ st Q => Q [] st
def dCons (ta : TEd) (tr : TAd) : TAd := fun e st Q => ta e st fun x st1 => tr e st1 fun xs st2 => Q (x :: xs) st2
theorem pda_nil : PDA X [] dNil := PA.imp pa_nil fun σ H Q ⟨e, st, hid, Qd, re, S, h, k⟩ => k [] H [] st (Fr.refl _ _) S .nil h
theorem pda_cons (ha : PD X e te) (hr : PDA X es t) (hs : starEach (e :: es) X.env = (false, eval e X.env) :: starEach es X.env := by rfl) : PDA X (e :: es) (dCons te t) :=
  PA.imp (pa_cons ha hr hs) fun σ H Q ⟨e, st, hid, Qd, re, S, h, k⟩ => ⟨e, st, hid, _, re, S, h, fun v1 H1 d1 st1 F1 S1 r1 h1 => ⟨e, st1, hid, _, re.mono F1 S.sr, S1, h1, fun vs H2 ds st2 F2 S2 r2 h2 =>
    k _ H2 (d1 :: ds) st2 (Fr.trans F1 F2) S2 (.cons (r1.mono F2 S1.sr) r2) h2⟩⟩
def dTup (t : TAd) : TEd := fun e st Q => t e st fun ds st' => match pures ds with
  | some xs => ds.length ≤ sizeLine ∧ Q (.d (.tuple xs)) st'
  | none => False
theorem pd_tup {x1} (h : PDA X es t) : PD X (.Tuple es x1 pos) (dTup t) :=
  PE.imp (pe_tup h) fun σ H Q ⟨e, st, hid, Qd, re, S, h, k⟩ => ⟨e, st, hid, _, re, S, h, fun vs H1 ds st1 F1 S1 r1 h1 => by
    cases q : pures ds with
    | none =>
      rw [q] at h1
      exact h1.elim
    | some xs =>
      rw [q] at h1
      have e2 := pures_eq q
      subst e2
      refine ⟨by rw [Paired.length r1]; exact h1.1, fun p hp => (k.mono F1).new S1 hp (.d (.tup (.inl (.inl upd_same)) ((Dvs.of r1).mono (fr_new hp) S1.sr))) h1.2⟩⟩
def dLst (t : TAd) : TEd := fun e st Q => t e st fun ds st' => ds.length ≤ sizeLine ∧ mkL ds st' Q
theorem pd_lst (h : PDA X es t) : PD X (.List es pos) (dLst t) :=
  PE.imp (pe_lst h) fun σ H Q ⟨e, st, hid, Qd, re, S, h, k⟩ => ⟨e, st, hid, _, re, S, h, fun vs H1 ds st1 F1 S1 r1 h1 =>
    ⟨by rw [Paired.length r1]; exact h1.1, fun p hp => mkL_go h1.2 S1 hp r1 (k.mono F1)⟩⟩
/-- .. as a value -/
def dLstV (t : TAd) : TEd := fun e st Q => t e st fun ds st' => match pures ds with
  | some xs => ds.length ≤ sizeLine ∧ Q (.d (.list xs)) st'
  | none => False
theorem pd_lstV (h : PDA X es t) : PD X (.List es pos) (dLstV t) :=
  PE.imp (pe_lst h) fun σ H Q ⟨e, st, hid, Qd, re, S, h, k⟩ => ⟨e, st, hid, _, re, S, h, fun vs H1 ds st1 F1 S1 r1 h1 => by
    cases q : pures ds with
    | none =>
      rw [q] at h1
      exact h1.elim
    | some xs =>
      rw [q] at h1
      exact ⟨by rw [Paired.length r1]; exact h1.1, fun p hp => mkL_go (.inl ⟨xs, q, h1.2⟩) S1 hp r1 (k.mono F1)⟩⟩
/-! ### operators -/
abbrev R2d := D → D → Sto → Kd → Prop
def upR (K : PySem.W.Frag) (r : R2d) : R2 := fun x y H Q => ∃ dx dy st hid Qd, DvD K (jn st hid) H x dx ∧ DvD K (jn st hid) H y dy ∧ Sx K st hid H ∧ r dx dy st Qd ∧ Go K st hid H Qd Q
def dBin (r : R2d) (ta tb : TEd) : TEd := fun e st Q => ta e st fun x st1 => tb e st1 fun y st2 => r x y st2 Q
theorem bin_imp {K : PySem.W.Frag} {r : R2d} {σ : L2.St} {H : Hp} {Q : VK} (w : up K (dBin r ta tb) σ H Q) : tOp (upR K r) (up K ta) (up K tb) σ H Q := by
  obtain ⟨e, st, hid, Qd, re, S, h, k⟩ := w
  exact ⟨e, st, hid, _, re, S, h, fun v1 H1 d1 st1 F1 S1 r1 h1 => ⟨e, st1, hid, _, re.mono F1 S.sr, S1, h1, fun v2 H2 d2 st2 F2 S2 r2 h2 =>
    ⟨d1, d2, st2, hid, Qd, r1.mono F2 S1.sr, r2, S2, h2, k.mono (Fr.trans F1 F2)⟩⟩⟩
theorem pd_bin {op : Operator} {r : R2d} (ho : OpR X (binaryOp op) (upR X.K r)) (ha : PD X a ta) (hb : PD X b tb) : PD X (.BinOp a op b pos) (dBin r ta tb) := PE.imp (pe_op ho ha hb) fun _ _ _ => bin_imp
theorem pd_cmp {op : CmpOp} {r : R2d} (ho : OpR X (compareOp op) (upR X.K r)) (ha : PD X a ta) (hb : PD X b tb) (hm : behindInMarks op b = false) : PD X (.Compare a [op] [b] pos) (dBin r ta tb) := PE.imp (pe_cmpR ho ha hb hm) fun _ _ _ => bin_imp
/-- a bool as a test -/
def asB (Q : Bool → Sto → Prop) : Kd := fun d st => match d with
  | .d (.bool b) => Q b st
  | _ => False
def dTst (t : TEd) : TTd := fun e st Q => t e st (asB Q)
theorem tst_go {K : PySem.W.Frag} {st hid : Sto} {H : Hp} {Qd : Bool → Sto → Prop} {Q : Bool → Hp → Prop} (k : GoT K st hid H Qd Q) : Go K st hid H (asB Qd) (fun x H' => ∃ c, x = .bl c ∧ Q c H') := fun v H' d st' F S r q => by
  cases r with
  | own a => exact q.elim
  | scr h f => exact q.elim
  | d h =>
    cases h with
    | bl b => exact ⟨b, rfl, k b H' st' F S q⟩
    | non => exact q.elim
    | int i => exact q.elim
    | str i => exact q.elim
    | lst h f r => exact q.elim
    | tup h r => exact q.elim
    | dic h f r z => exact q.elim
theorem pdt_val (h : PD X e te) (he : ∀ whole, isTrue e X.env whole = (do let v ← whole; standAt e.pos; holding [v] (truthy v)) := by intro _; rfl) : PDT X e (dTst te) :=
  PT.imp (pt_val h he) fun σ H Q ⟨e, st, hid, Qd, re, S, h, k⟩ => ⟨e, st, hid, _, re, S, h, tst_go k⟩
theorem pdt_cmp {op : CmpOp} {r : R2d} (ho : OpR X (compareOp op) (upR X.K r)) (ha : PD X a ta) (hb : PD X b tb) (hm : behindInMarks op b = false) : PDT X (.Compare a [op] [b] pos) (dTst (dBin r ta tb)) :=
  PT.imp (pt_cmpR ho ha hb hm) fun σ H Q ⟨e, st, hid, Qd, re, S, h, k⟩ => bin_imp ⟨e, st, hid, _, re, S, h, tst_go k⟩
def dChain (r r' : R2d) (ta tb tc : TEd) : TEd := fun e st Q => ta e st fun x st1 => tb e st1 fun y st2 => r x y st2 (asB fun k st3 => if k = true then tc e st3 fun z st4 => r' y z st4 Q else Q (.d (.bool false)) st3)
theorem chain_imp {K : PySem.W.Frag} {r r' : R2d} {σ : L2.St} {H : Hp} {Q : VK} (w : up K (dChain r r' ta tb tc) σ H Q) : tChain (upR K r) (upR K r') (up K ta) (up K tb) (up K tc) σ H Q := by
  obtain ⟨e, st, hid, Qd, re, S, h, k⟩ := w
  refine ⟨e, st, hid, _, re, S, h, fun v1 H1 d1 st1 F1 S1 r1 h1 => ⟨e, st1, hid, _, re.mono F1 S.sr, S1, h1, fun v2 H2 d2 st2 F2 S2 r2 h2 => ⟨d1, d2, st2, hid, _, r1.mono F2 S1.sr, r2, S2, h2, tst_go fun b H3 st3 F3 S3 h3 => ?_⟩⟩⟩
  have F := Fr.trans F1 (Fr.trans F2 F3)
  cases b with
  | false =>
    rw [if_neg Bool.false_ne_true] at h3 ⊢
    exact (k.mono F).now S3 (.d (.bl false)) h3
  | true =>
    rw [if_pos rfl] at h3 ⊢
    exact ⟨e, st3, hid, _, re.mono F S.sr, S3, h3, fun v4 H4 d4 st4 F4 S4 r4 h4 => ⟨d2, d4, st4, hid, Qd, r2.mono (Fr.trans F3 F4) S2.sr, r4, S4, h4, k.mono (Fr.trans F F4)⟩⟩
theorem pd_chain {op op' : CmpOp} {r r' : R2d} (ho : OpR X (compareOp op) (upR X.K r)) (ho' : OpR X (compareOp op') (upR X.K r')) (ha : PD X a ta) (hb : PD X b tb) (hc : PD X c tc)
    (hm : lastMarks [op, op'] [b, c] = false := by with_unfolding_all rfl) : PD X (.Compare a [op, op'] [b, c] pos) (dChain r r' ta tb tc) := PE.imp (pe_chain ho ho' ha hb hc hm) fun _ _ _ => chain_imp
theorem pdt_chain {op op' : CmpOp} {r r' : R2d} (ho : OpR X (compareOp op) (upR X.K r)) (ho' : OpR X (compareOp op') (upR X.K r')) (ha : PD X a ta) (hb : PD X b tb) (hc : PD X c tc)
    (hm : lastMarks [op, op'] [b, c] = false := by with_unfolding_all rfl) : PDT X (.Compare a [op, op'] [b, c] pos) (dTst (dChain r r' ta tb tc)) :=
  PT.imp (pt_chain ho ho' ha hb hc hm) fun σ H Q ⟨e, st, hid, Qd, re, S, h, k⟩ => chain_imp ⟨e, st, hid, _, re, S, h, tst_go k⟩
/-! ### and, or, not, if -/
variable {tA tB : TTd}
def dAndT (t u : TTd) : TTd := fun e st Q => t e st fun c st1 => if c = true then u e st1 Q else Q false st1
def dOrT (t u : TTd) : TTd := fun e st Q => t e st fun c st1 => if c = true then Q true st1 else u e st1 Q
def dNotT (t : TTd) : TTd := fun e st Q => t e st fun c st1 => Q (!c) st1
theorem pdw_and1 (ha : PDT X a tA) : PDW X (.BoolOp .And [a] pos) tA := pw_and1 ha
theorem pdw_or1 (ha : PDT X a tA) : PDW X (.BoolOp .Or [a] pos) tA := pw_or1 ha
theorem pdw_and (ha : PDT X a tA) (hb : PDW X (.BoolOp .And (b :: rest) pos) tB) : PDW X (.BoolOp .And (a :: b :: rest) pos) (dAndT tA tB) :=
  PW.imp (pw_and ha hb) fun σ H Q ⟨e, st, hid, Qd, re, S, h, k⟩ => ⟨e, st, hid, _, re, S, h, fun c H1 st1 F1 S1 h1 => by
    cases c with
    | true =>
      rw [if_pos rfl] at h1 ⊢
      exact ⟨e, st1, hid, Qd, re.mono F1 S.sr, S1, h1, k.mono F1⟩
    | false =>
      rw [if_neg Bool.false_ne_true] at h1 ⊢
      exact k false H1 st1 F1 S1 h1⟩
theorem pdw_or (ha : PDT X a tA) (hb : PDW X (.BoolOp .Or (b :: rest) pos) tB) : PDW X (.BoolOp .Or (a :: b :: rest) pos) (dOrT tA tB) :=
  PW.imp (pw_or ha hb) fun σ H Q ⟨e, st, hid, Qd, re, S, h, k⟩ => ⟨e, st, hid, _, re, S, h, fun c H1 st1 F1 S1 h1 => by
    cases c with
    | false =>
      rw [if_neg Bool.false_ne_true] at h1 ⊢
      exact ⟨e, st1, hid, Qd, re.mono F1 S.sr, S1, h1, k.mono F1⟩
    | true =>
      rw [if_pos rfl] at h1 ⊢
      exact k true H1 st1 F1 S1 h1⟩
theorem pdt_w (h : PDW X e tA) : PDT X e tA := h.pt
theorem pdt_not (ha : PDT X a tA) : PDT X (.UnaryOp .Not a pos) (dNotT tA) :=
  PT.imp (pt_not ha) fun σ H Q ⟨e, st, hid, Qd, re, S, h, k⟩ => ⟨e, st, hid, _, re, S, h, fun c H1 st1 F1 S1 h1 => k (!c) H1 st1 F1 S1 h1⟩
def dAnd (ta tb : TEd) : TEd := fun e st Q => ta e st (asB fun c st1 => if c = true then tb e st1 Q else Q (.d (.bool false)) st1)
def dOr (ta tb : TEd) : TEd := fun e st Q => ta e st (asB fun c st1 => if c = true then Q (.d (.bool true)) st1 else tb e st1 Q)
def dNot (ta : TEd) : TEd := fun e st Q => ta e st (asB fun c st1 => Q (.d (.bool (!c))) st1)
theorem pd_one {op} (h : PD X a ta) : PD X (.BoolOp op [a] pos) ta := pe_one h
theorem pd_and (ha : PD X a ta) (hb : PD X (.BoolOp .And (b :: rest) pos) tb) : PD X (.BoolOp .And (a :: b :: rest) pos) (dAnd ta tb) :=
  PE.imp (pe_and ha hb) fun σ H Q ⟨e, st, hid, Qd, re, S, h, k⟩ => ⟨e, st, hid, _, re, S, h, tst_go fun c H1 st1 F1 S1 h1 => by
    cases c with
    | true =>
      rw [if_pos rfl] at h1 ⊢
      exact ⟨e, st1, hid, Qd, re.mono F1 S.sr, S1, h1, k.mono F1⟩
    | false =>
      rw [if_neg Bool.false_ne_true] at h1 ⊢
      exact (k.mono F1).now S1 (.d (.bl false)) h1⟩
theorem pd_or (ha : PD X a ta) (hb : PD X (.BoolOp .Or (b :: rest) pos) tb) : PD X (.BoolOp .Or (a :: b :: rest) pos) (dOr ta tb) :=
  PE.imp (pe_or ha hb) fun σ H Q ⟨e, st, hid, Qd, re, S, h, k⟩ => ⟨e, st, hid, _, re, S, h, tst_go fun c H1 st1 F1 S1 h1 => by
    cases c with
    | false =>
      rw [if_neg Bool.false_ne_true] at h1 ⊢
      exact ⟨e, st1, hid, Qd, re.mono F1 S.sr, S1, h1, k.mono F1⟩
    | true =>
      rw [if_pos rfl] at h1 ⊢
      exact (k.mono F1).now S1 (.d (.bl true)) h1⟩
theorem pd_not (ha : PD X a ta) : PD X (.UnaryOp .Not a pos) (dNot ta) :=
  PE.imp (pe_not ha) fun σ H Q ⟨e, st, hid, Qd, re, S, h, k⟩ => ⟨e, st, hid, _, re, S, h, tst_go fun c H1 st1 F1 S1 h1 => (k.mono F1).now S1 (.d (.bl (!c))) h1⟩
def dIf (t : TTd) (ta tb : TEd) : TEd := fun e st Q => t e st fun c st1 => if c = true then ta e st1 Q else tb e st1 Q
theorem pd_if (hc : PDT X c tA) (ha : PD X a ta) (hb : PD X b tb) : PD X (.IfExp c a b pos) (dIf tA ta tb) :=
  PE.imp (pe_ifExp hc ha hb) fun σ H Q ⟨e, st, hid, Qd, re, S, h, k⟩ => ⟨e, st, hid, _, re, S, h, fun c H1 st1 F1 S1 h1 => by
    cases c with
    | true =>
      rw [if_pos rfl] at h1 ⊢
      exact ⟨e, st1, hid, Qd, re.mono F1 S.sr, S1, h1, k.mono F1⟩
    | false =>
      rw [if_neg Bool.false_ne_true] at h1 ⊢
      exact ⟨e, st1, hid, Qd, re.mono F1 S.sr, S1, h1, k.mono F1⟩⟩
/-- - i -/
def dNeg (ta : TEd) : TEd := fun e st Q => ta e st fun d st1 => match d with
  | .d (.int i) => Q (.d (.int (-i))) st1
  | _ => False
theorem pd_neg (ha : PD X a ta) : PD X (.UnaryOp .USub a pos) (dNeg ta) :=
  PE.imp (pe_un un_neg ha) fun σ H Q ⟨e, st, hid, Qd, re, S, h, k⟩ => ⟨e, st, hid, _, re, S, h, fun v H1 d st1 F1 S1 r h1 => by
    cases r with
    | own a => exact h1.elim
    | scr h f => exact h1.elim
    | d h =>
      cases h with
      | int i => exact ⟨i, rfl, (k.mono F1).now S1 (.d (.int (-i))) h1⟩
      | _ => exact h1.elim⟩
/-! ### ints -/
def rI2 (C : Int → Int → Prop) (g : Int → Int → PyData) : R2d := fun x y st Q => match x, y with
  | .d (.int i), .d (.int j) => C i j ∧ Q (.d (g i j)) st
  | _, _ => False
theorem rI2_at {K : PySem.W.Frag} {C : Int → Int → Prop} {g : Int → Int → PyData} {x y : V} {dx dy : D} {st hid : Sto} {H : Hp} {Q : Kd} (hx : DvD K (jn st hid) H x dx) (hy : DvD K (jn st hid) H y dy) (h : rI2 C g dx dy st Q) : ∃ i j, x = .int i ∧ y = .int j ∧ C i j ∧ Q (.d (g i j)) st := by
  cases hx with
  | own a => exact h.elim
  | scr h1 f => exact h.elim
  | d hx =>
    cases hy with
    | own a => cases hx <;> exact h.elim
    | scr h1 f => cases hx <;> exact h.elim
    | d hy =>
      cases hx with
      | int i =>
        cases hy with
        | int j => exact ⟨i, j, rfl, rfl, h.1, h.2⟩
        | _ => exact h.elim
      | _ => cases hy <;> exact h.elim
theorem up_int {f : Value → Value → Sem Value} {C : Int → Int → Prop} {g : Int → Int → Int} (h : OpR X f (rI C fun i j => .int (g i j))) : OpR X f (upR X.K (rI2 C fun i j => .int (g i j))) := OpR.imp h fun x y H Q ⟨dx, dy, st, hid, Qd, hx, hy, S, w, k⟩ => by
  obtain ⟨i, j, rfl, rfl, hc, q⟩ := rI2_at hx hy w
  exact ⟨i, j, rfl, rfl, hc, k.now S (.d (.int _)) q⟩
theorem up_int0 {f : Value → Value → Sem Value} {g : Int → Int → Int} (h : OpR X f (rI0 fun i j => .int (g i j))) : OpR X f (upR X.K (rI2 (fun _ _ => True) fun i j => .int (g i j))) := OpR.imp h fun x y H Q ⟨dx, dy, st, hid, Qd, hx, hy, S, w, k⟩ => by
  obtain ⟨i, j, rfl, rfl, hc, q⟩ := rI2_at hx hy w
  exact ⟨i, j, rfl, rfl, k.now S (.d (.int _)) q⟩
theorem up_cmp0 {f : Value → Value → Sem Value} {g : Int → Int → Bool} (h : OpR X f (rI0 fun i j => .bl (g i j))) : OpR X f (upR X.K (rI2 (fun _ _ => True) fun i j => .bool (g i j))) := OpR.imp h fun x y H Q ⟨dx, dy, st, hid, Qd, hx, hy, S, w, k⟩ => by
  obtain ⟨i, j, rfl, rfl, hc, q⟩ := rI2_at hx hy w
  exact ⟨i, j, rfl, rfl, k.now S (.d (.bl _)) q⟩
def rSubD : R2d := rI2 (fun _ _ => True) fun i j => .int (i - j)
def rMulD : R2d := rI2 CMulW fun i j => .int (i * j)
def rDivD : R2d := rI2 CDivW fun i j => .int (i / j)
def rModD : R2d := rI2 (fun _ j => 0 < j) fun i j => .int (i % j)
def rPowD : R2d := rI2 CPow fun i j => .int (i ^ j.toNat)
def rLtD : R2d := rI2 (fun _ _ => True) fun i j => .bool (decide (i < j))
def rLeD : R2d := rI2 (fun _ _ => True) fun i j => .bool (decide (i ≤ j))
def rGtD : R2d := rI2 (fun _ _ => True) fun i j => .bool (decide (j < i))
def rGeD : R2d := rI2 (fun _ _ => True) fun i j => .bool (decide (j ≤ i))
theorem o_sub : OpR X (binaryOp .Sub) (upR X.K rSubD) := up_int0 op_sub
theorem o_mul : OpR X (binaryOp .Mult) (upR X.K rMulD) := up_int op_mulW
theorem o_div : OpR X (binaryOp .FloorDiv) (upR X.K rDivD) := up_int op_fdivW
theorem o_mod : OpR X (binaryOp .Mod) (upR X.K rModD) := up_int op_mod
theorem o_pow : OpR X (binaryOp .Pow) (upR X.K rPowD) := up_int op_pow
theorem o_lt : OpR X (compareOp .Lt) (upR X.K rLtD) := up_cmp0 op_lt
theorem o_le : OpR X (compareOp .LtE) (upR X.K rLeD) := up_cmp0 op_le
theorem o_gt : OpR X (compareOp .Gt) (upR X.K rGtD) := up_cmp0 op_gt
theorem o_ge : OpR X (compareOp .GtE) (upR X.K rGeD) := up_cmp0 op_ge
end
end DL
namespace DL
open PySem PySem.Spec PyProof.Rows L2
/-! ### lists, read -/
def lstOf (d : D) (st : Sto) : Option (List D) := match d with
  | .d (.list xs) => some (xs.map D.d)
  | .own a => st a
  | .scr ns => some (ns.map fun n => .d (.int n))
  | _ => none
/-- .. such as a list display, an append may have made -/
def wlOf (d : D) (st : Sto) : Option (List D) := match d with
  | .d (.list xs) => some (xs.map D.d)
  | .own a => st a
  | _ => none
section
variable {K : PySem.W.Frag} {st hid : Sto} {H : Hp}
theorem ints_to : ∀ ns : List Int, DvsD K st H (ns.map V.int) (ns.map fun n => .d (.int n))
  | [] => .nil
  | n :: ns => .cons (.d (.int n)) (ints_to ns)
theorem wlOf_at {x : V} {d : D} {ds : List D} (r : DvD K (jn st hid) H x d) (S : Sx K st hid H) (e : wlOf d st = some ds) : ∃ a xs, x = .ref a ∧ H a = some (.lst xs) ∧ DvsD K (jn st hid) H xs ds := by
  cases r with
  | own a =>
    obtain ⟨xs, h1, h2⟩ := S.at_ (show st a = some ds from e)
    exact ⟨a, xs, rfl, h1, h2⟩
  | scr h f => cases e
  | d h =>
    cases h with
    | lst h f r =>
      cases (show some (_ : List D) = some ds from e)
      exact ⟨_, _, rfl, h, Dvs.to r⟩
    | _ => cases e
theorem lstOf_at {x : V} {d : D} {ds : List D} (r : DvD K (jn st hid) H x d) (S : Sx K st hid H) (e : lstOf d st = some ds) : ∃ a xs, x = .ref a ∧ SqL K H a xs ∧ DvsD K (jn st hid) H xs ds := by
  cases r with
  | own a =>
    obtain ⟨xs, h1, h2⟩ := S.at_ (show st a = some ds from e)
    exact ⟨a, xs, rfl, .inl (.inl h1), h2⟩
  | scr h f =>
    cases (show some (_ : List D) = some ds from e)
    exact ⟨_, _, rfl, h, ints_to _⟩
  | d h =>
    cases h with
    | lst h f r =>
      cases (show some (_ : List D) = some ds from e)
      exact ⟨_, _, rfl, .inl (.inl h), Dvs.to r⟩
    | _ => cases e
theorem tup_at {x : V} {xs : List PyData} (r : DvD K (jn st hid) H x (.d (.tuple xs))) : ∃ a vs, x = .ref a ∧ SqT K H a vs ∧ Dvs K (jn st hid) H vs xs := by
  cases r with
  | d h =>
    cases h with
    | tup h r => exact ⟨_, _, rfl, h, r⟩
theorem int_at {x : V} {i : Int} (r : DvD K (jn st hid) H x (.d (.int i))) : x = .int i := by
  cases r with
  | d h =>
    cases h with
    | int i => rfl
theorem str_at {x : V} {i : Str} (r : DvD K (jn st hid) H x (.d (.str i))) : x = .str i := by
  cases r with
  | d h =>
    cases h with
    | str i => rfl
theorem bl_at {x : V} {i : Bool} (r : DvD K (jn st hid) H x (.d (.bool i))) : x = .bl i := by
  cases r with
  | d h =>
    cases h with
    | bl i => rfl
theorem DvsD.append : ∀ {vs ws : List V} {xs ys : List D}, DvsD K st H vs xs → DvsD K st H ws ys → DvsD K st H (vs ++ ws) (xs ++ ys)
  | _, _, _, _, .nil, q => q
  | _, _, _, _, .cons h t, q => .cons h (DvsD.append t q)
theorem DvsD.drop : ∀ {vs : List V} {xs : List D} (n : Nat), DvsD K st H vs xs → DvsD K st H (vs.drop n) (xs.drop n)
  | _, _, 0, r => r
  | _, _, _ + 1, .nil => .nil
  | _, _, n + 1, .cons _ t => DvsD.drop n t
theorem DvsD.take : ∀ {vs : List V} {xs : List D} (n : Nat), DvsD K st H vs xs → DvsD K st H (vs.take n) (xs.take n)
  | _, _, 0, _ => .nil
  | _, _, _ + 1, .nil => .nil
  | _, _, n + 1, .cons h t => .cons h (DvsD.take n t)
theorem DvsD.reverse : ∀ {vs : List V} {xs : List D}, DvsD K st H vs xs → DvsD K st H vs.reverse xs.reverse
  | _, _, .nil => .nil
  | _, _, .cons h t => by
    rw [List.reverse_cons, List.reverse_cons]
    exact DvsD.snoc (DvsD.reverse t) h
theorem atI_pair {α β : Type} {xs : List α} {ys : List β} {i : Int} {y : β} (hl : xs.length = ys.length) (h : atI ys i = some y) : ∃ j : Nat, ys[j]? = some y ∧ ∀ x, xs[j]? = some x → atI xs i = some x := by
  unfold atI at h ⊢
  rw [hl]
  cases e : ixN ys.length i with
  | none =>
    rw [e] at h
    cases h
  | some j =>
    rw [e] at h
    exact ⟨j, h, fun x q => q⟩
theorem DvsD.at_ {vs : List V} {xs : List D} {i : Int} {d : D} (r : DvsD K st H vs xs) (h : atI xs i = some d) : ∃ v, atI vs i = some v ∧ DvD K st H v d := by
  obtain ⟨j, h1, h2⟩ := atI_pair (Paired.length r) h
  obtain ⟨v, h3, h4⟩ := r.get h1
  exact ⟨v, h2 v h3, h4⟩
theorem Dvs.at_ {vs : List V} {xs : List PyData} {i : Int} {d : PyData} (r : Dvs K st H vs xs) (h : atI xs i = some d) : ∃ v, atI vs i = some v ∧ Dv K st H v d := by
  obtain ⟨j, h1, h2⟩ := atI_pair r.length h
  obtain ⟨v, h3, h4⟩ := r.get h1
  exact ⟨v, h2 v h3, h4⟩
/-! data without dicts, as the library's == reads it -/
mutual
theorem Dv.dp : ∀ {v : V} {x : PyData}, Dv K st H v x → x.hasDict = false → Dp K H v x
  | _, _, .non, _ => .non
  | _, _, .bl b, _ => .bl b
  | _, _, .int i, _ => .int i
  | _, _, .str x, _ => .str x
  | _, _, .lst h f r, n => .lst (.inl (.inl h)) (Dvs.dp r (by simpa [PyData.hasDict] using n))
  | _, _, .tup h r, n => .tup h (Dvs.dp r (by simpa [PyData.hasDict] using n))
  | _, _, .dic h f r q, n => by simp [PyData.hasDict] at n
theorem Dvs.dp : ∀ {vs : List V} {xs : List PyData}, Dvs K st H vs xs → PyData.hasDictAll xs = false → DpAll K H vs xs
  | _, _, .nil, _ => .nil
  | _, _, .cons h t, n => by
    have n2 := (Bool.or_eq_false_iff.mp (show (PyData.hasDict _ || PyData.hasDictAll _) = false by simpa [PyData.hasDictAll] using n))
    exact .cons (Dv.dp h n2.1) (Dvs.dp t n2.2)
end
end
section
variable {X : Cx} {pos p p2 : Pos} {a b c e : Expr} {es rest : List Expr} {ta tb tc te : TEd} {t : TAd}
/-! ### + -/
def rAddD : R2d := fun x y st Q => match x, y with
  | .d (.int i), .d (.int j) => Q (.d (.int (i + j))) st
  | .d (.str i), .d (.str j) => i.length + j.length ≤ sizeLine ∧ Q (.d (.str (i ++ j))) st
  | .d (.tuple xs), .d (.tuple ys) => xs.length + ys.length ≤ sizeLine ∧ Q (.d (.tuple (xs ++ ys))) st
  | .d (.list xs), .d (.list ys) => xs.length + ys.length ≤ sizeLine ∧ Q (.d (.list (xs ++ ys))) st
  | x, y => ∃ xs ys, wlOf x st = some xs ∧ wlOf y st = some ys ∧ xs.length + ys.length ≤ sizeLine ∧ mkL (xs ++ ys) st Q
theorem o_add : OpR X (binaryOp .Add) (upR X.K rAddD) := fun pins s σ H x y v u Q I rx ry ⟨dx, dy, st, hid, Qd, hx, hy, S, w, k⟩ => by
  unfold rAddD at w
  split at w
  · cases int_at hx
    cases int_at hy
    exact op_add pins s σ H _ _ v u Q I rx ry ⟨_, _, rfl, rfl, k.now S (.d (.int _)) w⟩
  · cases str_at hx
    cases str_at hy
    exact op_add_str pins s σ H _ _ v u Q I rx ry ⟨_, _, rfl, rfl, w.1, k.now S (.d (.str _)) w.2⟩
  · rename_i xs ys
    obtain ⟨a, vs, rfl, h1, r1⟩ := tup_at hx
    obtain ⟨b, ws, rfl, h2, r2⟩ := tup_at hy
    have l1 := r1.length
    have l2 := r2.length
    refine op_catA pins s σ H _ _ v u Q I rx ry ⟨a, b, vs, ws, rfl, rfl, h1, h2, by omega, fun z => ?_, fun _ z => ?_, fun _ _ p hp => ?_⟩
    · subst z
      have e : xs = [] := List.length_eq_zero_iff.mp l1.symm
      subst e
      exact k.now S hy w.2
    · subst z
      have e : ys = [] := List.length_eq_zero_iff.mp l2.symm
      subst e
      rw [List.append_nil] at w
      exact k.now S hx w.2
    · exact k.new S hp (.d (.tup (.inl (.inl upd_same)) ((r1.append r2).mono (fr_new hp) S.sr))) w.2
  · rename_i xs ys
    obtain ⟨a, vs, rfl, h1, r1⟩ := wlOf_at hx S rfl
    obtain ⟨b, ws, rfl, h2, r2⟩ := wlOf_at hy S rfl
    have l1 := Paired.length r1
    have l2 := Paired.length r2
    rw [List.length_map] at l1 l2
    refine op_cat pins s σ H _ _ v u Q I rx ry ⟨a, b, vs, ws, rfl, rfl, h1, h2, by omega, fun p hp => mkL_go (.inl ⟨xs ++ ys, ?_, w.2⟩) S hp (r1.append r2) k⟩
    rw [← List.map_append]
    exact pures_map _
  · obtain ⟨xs, ys, e1, e2, hz, q⟩ := w
    obtain ⟨a, vs, rfl, h1, r1⟩ := wlOf_at hx S e1
    obtain ⟨b, ws, rfl, h2, r2⟩ := wlOf_at hy S e2
    have l1 := Paired.length r1
    have l2 := Paired.length r2
    exact op_cat pins s σ H _ _ v u Q I rx ry ⟨a, b, vs, ws, rfl, rfl, h1, h2, by omega, fun p hp => mkL_go q S hp (r1.append r2) k⟩
/-! ### == and != -/
def rEqV : R2d := fun x y st Q => match x, y with
  | .d (.int i), .d (.int j) => Q (.d (.bool (decide (i = j)))) st
  | .d (.str i), .d (.str j) => Q (.d (.bool (decide (i = j)))) st
  | .d i, .d j => SeqAt.shaped i = true ∧ SeqAt.shaped j = true ∧ Q (.d (.bool (PyData.eqv i j))) st
  | _, _ => False
def rNeV : R2d := fun x y st Q => match x, y with
  | .d (.int i), .d (.int j) => Q (.d (.bool (!decide (i = j)))) st
  | .d (.str i), .d (.str j) => Q (.d (.bool (!decide (i = j)))) st
  | .d i, .d j => SeqAt.shaped i = true ∧ SeqAt.shaped j = true ∧ Q (.d (.bool (!PyData.eqv i j))) st
  | _, _ => False
theorem noDict {d : PyData} (h : SeqAt.shaped d = true) : d.hasDict = false := PyData.hasDict_of_canLay d (SeqAt.canLay_of_shaped h)
theorem o_eq (hu : X.A.units + 64 < cLine) : OpR X (compareOp .Eq) (upR X.K rEqV) := fun pins s σ H x y v u Q I rx ry ⟨dx, dy, st, hid, Qd, hx, hy, S, w, k⟩ => by
  unfold rEqV at w
  split at w
  · cases int_at hx
    cases int_at hy
    refine op_eq pins s σ H _ _ v u Q I rx ry ⟨rfl, ?_⟩
    rw [dec_int, show ∀ i j : Int, (i == j) = decide (i = j) from fun i j => by rw [Bool.eq_iff_iff]; simp]
    exact k.now S (.d (.bl _)) w
  · cases str_at hx
    cases str_at hy
    refine op_eq pins s σ H _ _ v u Q I rx ry ⟨rfl, ?_⟩
    rw [dec_str, show ∀ i j : Str, (i == j) = decide (i = j) from fun i j => by rw [Bool.eq_iff_iff]; simp]
    exact k.now S (.d (.bl _)) w
  · cases hx with
    | d hx =>
      cases hy with
      | d hy => exact op_eqD hu pins s σ H _ _ v u Q I rx ry ⟨_, _, hx.dp (noDict w.1), hy.dp (noDict w.2.1), w.1, w.2.1, k.now S (.d (.bl _)) w.2.2⟩
  · exact w.elim
theorem o_ne (hu : X.A.units + 64 < cLine) : OpR X (compareOp .NotEq) (upR X.K rNeV) := fun pins s σ H x y v u Q I rx ry ⟨dx, dy, st, hid, Qd, hx, hy, S, w, k⟩ => by
  unfold rNeV at w
  split at w
  · cases int_at hx
    cases int_at hy
    refine op_ne pins s σ H _ _ v u Q I rx ry ⟨rfl, ?_⟩
    rw [dec_int, show ∀ i j : Int, (i == j) = decide (i = j) from fun i j => by rw [Bool.eq_iff_iff]; simp]
    exact k.now S (.d (.bl _)) w
  · cases str_at hx
    cases str_at hy
    refine op_ne pins s σ H _ _ v u Q I rx ry ⟨rfl, ?_⟩
    rw [dec_str, show ∀ i j : Str, (i == j) = decide (i = j) from fun i j => by rw [Bool.eq_iff_iff]; simp]
    exact k.now S (.d (.bl _)) w
  · cases hx with
    | d hx =>
      cases hy with
      | d hy => exact op_neD hu pins s σ H _ _ v u Q I rx ry ⟨_, _, hx.dp (noDict w.1), hy.dp (noDict w.2.1), w.1, w.2.1, k.now S (.d (.bl _)) w.2.2⟩
  · exact w.elim
/-! ### x[i], x[lo:hi], x[::-1] -/
def rIxD : R2d := fun x y st Q => match y with
  | .d (.int i) => match x with
    | .d (.tuple xs) => ∃ v, atI xs i = some v ∧ Q (.d v) st
    | .d (.str z) => z.length ≤ sizeLine ∧ ∃ n, atI z.cps.toList i = some n ∧ Q (.d (.str ⟨#[n]⟩)) st
    | x => ∃ ds v, lstOf x st = some ds ∧ atI ds i = some v ∧ Q v st
  | _ => False
theorem ix_imp : IxR X (upR X.K rIxD) := by
  intro value slice pins s σ H x y v u Q I rx ry ⟨dx, dy, st, hid, Qd, hx, hy, S, w, k⟩ hs
  unfold rIxD at w
  split at w
  · rename_i i
    cases int_at hy
    split at w
    · obtain ⟨d, e, q⟩ := w
      obtain ⟨a, vs, rfl, h1, r1⟩ := tup_at hx
      obtain ⟨z, h2, r2⟩ := r1.at_ e
      exact ix_tup value slice pins s σ H _ _ v u Q I rx ry ⟨a, vs, i, z, rfl, rfl, h1, h2, k.now S (.d r2) q⟩ hs
    · obtain ⟨hz, n, e, q⟩ := w
      cases str_at hx
      exact ix_str value slice pins s σ H _ _ v u Q I rx ry ⟨_, i, n, rfl, rfl, hz, e, k.now S (.d (.str _)) q⟩ hs
    · obtain ⟨ds, d, e1, e, q⟩ := w
      obtain ⟨a, vs, rfl, h1, r1⟩ := lstOf_at hx S e1
      obtain ⟨z, h2, r2⟩ := r1.at_ e
      exact ix_list value slice pins s σ H _ _ v u Q I rx ry ⟨a, vs, i, z, rfl, rfl, h1, h2, k.now S r2 q⟩ hs
  · exact w.elim
theorem pd_ix (ha : PD X a ta) (hb : PD X b tb) (hs : PlainIx b) : PD X (.Subscript a b pos) (dBin rIxD ta tb) := PE.imp (pe_ix ix_imp ha hb hs) fun _ _ _ => bin_imp
abbrev TOd := Ed → Sto → (Option Int → Sto → Prop) → Prop
abbrev GoO (K : PySem.W.Frag) (st hid : Sto) (H : Hp) (Qd : Option Int → Sto → Prop) (Q : Option Int → Hp → Prop) : Prop := ∀ b H' st', FrX st hid H st' H' → Sx K st' hid H' → Qd b st' → Q b H'
def upO (K : PySem.W.Frag) (t : TOd) : TO := fun σ H Q => ∃ e st hid Qd, RE K (jn st hid) H σ e ∧ Sx K st hid H ∧ t e st Qd ∧ GoO K st hid H Qd Q
abbrev PDO (X : Cx) (e : Option Expr) (t : TOd) : Prop := PO X e (upO X.K t)
theorem PO.imp {X : Cx} {e : Option Expr} {t t' : TO} (h : PO X e t) (i : ∀ σ H Q, t' σ H Q → t σ H Q) : PO X e t' := ⟨fun pins s σ H Q I w => h.run pins s σ H Q I (i σ H Q w)⟩
def dNoP : TOd := fun _ st Q => Q none st
def dPart (t : TEd) : TOd := fun e st Q => t e st fun d st1 => match d with
  | .d (.int i) => Q (some i) st1
  | _ => False
theorem pdo_none : PDO X none dNoP := PO.imp po_none fun σ H Q ⟨e, st, hid, Qd, re, S, h, k⟩ => k none H st (Fr.refl _ _) S h
theorem pdo_some (h : PD X e te) : PDO X (some e) (dPart te) := PO.imp (po_some h) fun σ H Q ⟨e, st, hid, Qd, re, S, h, k⟩ => ⟨e, st, hid, _, re, S, h, fun v H1 d st1 F1 S1 r q => by
  cases r with
  | own a => exact q.elim
  | scr h f => exact q.elim
  | d h =>
    cases h with
    | int i => exact ⟨i, rfl, k (some i) H1 st1 F1 S1 q⟩
    | _ => exact q.elim⟩
/-- the items of xs[lo:hi] -/
def cutP {α : Type} (xs : List α) (lo hi : Option Int) : List α := (xs.drop (HT.sIx xs.length 0 lo)).take (HT.sIx xs.length xs.length hi - HT.sIx xs.length 0 lo)
def rSlD (x : D) (lo hi : Option Int) (st : Sto) (Q : Kd) : Prop := match x with
  | .d (.tuple xs) => Q (.d (.tuple (cutP xs lo hi))) st
  | .d (.list xs) => Q (.d (.list (cutP xs lo hi))) st
  | .scr ns => Q (.d (.list ((cutP ns lo hi).map .int))) st
  | x => ∃ ds, lstOf x st = some ds ∧ mkL (cutP ds lo hi) st Q
theorem cutP_map {α β : Type} (f : α → β) (xs : List α) (lo hi : Option Int) : cutP (xs.map f) lo hi = (cutP xs lo hi).map f := by
  unfold cutP
  rw [List.length_map, List.map_take, List.map_drop]
def dSl (te : TEd) (tl th : TOd) : TEd := fun e st Q => te e st fun x st1 => tl e st1 fun l st2 => th e st2 fun u st3 => rSlD x l u st3 Q
theorem sl_imp : SlR X (fun x lo hi H Q => ∃ dx st hid Qd, DvD X.K (jn st hid) H x dx ∧ Sx X.K st hid H ∧ rSlD dx lo hi st Qd ∧ Go X.K st hid H Qd Q) := by
  intro pins s σ H x v vl vu lo hi sl Q I rx hs pl pu ⟨dx, st, hid, Qd, hx, S, w, k⟩
  unfold rSlD at w
  split at w
  · rename_i xs
    obtain ⟨a, vs, rfl, h1, r1⟩ := tup_at hx
    have l1 := r1.length
    refine sl_tupA pins s σ H _ v vl vu lo hi sl Q I rx hs pl pu ⟨a, vs, rfl, h1, fun z => ?_, fun _ p hp => ?_⟩
    · have e : cutP xs lo hi = xs := by
        unfold cutP
        rw [← l1, z.1, z.2, List.drop_zero, Nat.sub_zero, List.take_of_length_le (Nat.le_of_eq l1.symm)]
      rw [e] at w
      exact k.now S hx w
    · refine k.new S hp (.d (.tup (.inl (.inl upd_same)) ?_)) w
      unfold cutP cutV
      rw [l1]
      exact ((r1.drop _).take _).mono (fr_new hp) S.sr
  · rename_i xs
    obtain ⟨a, vs, rfl, h1, r1⟩ := lstOf_at hx S rfl
    have l1 := Paired.length r1
    refine sl_list pins s σ H _ v vl vu lo hi sl Q I rx hs pl pu ⟨a, vs, rfl, h1, fun p hp => mkL_go (ds := cutP (xs.map D.d) lo hi) (.inl ⟨cutP xs lo hi, by rw [cutP_map]; exact pures_map _, w⟩) S hp ?_ k⟩
    unfold cutP cutV
    rw [l1]
    exact (r1.drop _).take _
  · rename_i ns
    obtain ⟨a, vs, rfl, h1, r1⟩ := lstOf_at hx S rfl
    have l1 := Paired.length r1
    refine sl_list pins s σ H _ v vl vu lo hi sl Q I rx hs pl pu ⟨a, vs, rfl, h1, fun p hp => mkL_go (ds := cutP (ns.map fun n => .d (.int n)) lo hi) (.inl ⟨_, ?_, w⟩) S hp ?_ k⟩
    · rw [cutP_map, show (List.map (fun n => D.d (PyData.int n)) (cutP ns lo hi)) = ((cutP ns lo hi).map PyData.int).map D.d by rw [List.map_map]; rfl]
      exact pures_map _
    · unfold cutP cutV
      rw [l1]
      exact (r1.drop _).take _
  · obtain ⟨ds, e, q⟩ := w
    obtain ⟨a, vs, rfl, h1, r1⟩ := lstOf_at hx S e
    have l1 := Paired.length r1
    refine sl_list pins s σ H _ v vl vu lo hi sl Q I rx hs pl pu ⟨a, vs, rfl, h1, fun p hp => mkL_go q S hp ?_ k⟩
    unfold cutP cutV
    rw [l1]
    exact (r1.drop _).take _
theorem pd_sl {lo hi : Option Expr} {tl th : TOd} (he : PD X e te) (hl : PDO X lo tl) (hu : PDO X hi th) : PD X (.Subscript e (.Slice lo hi none p2) pos) (dSl te tl th) :=
  PE.imp (pe_slice sl_imp he hl hu) fun σ H Q ⟨e, st, hid, Qd, re, S, h, k⟩ => ⟨e, st, hid, _, re, S, h, fun v H1 d st1 F1 S1 r1 h1 => ⟨e, st1, hid, _, re.mono F1 S.sr, S1, h1, fun l H2 st2 F2 S2 h2 =>
    ⟨e, st2, hid, _, re.mono (Fr.trans F1 F2) S.sr, S2, h2, fun u H3 st3 F3 S3 h3 => ⟨d, st3, hid, Qd, r1.mono (Fr.trans F2 F3) S1.sr, S3, h3, k.mono (Fr.trans F1 (Fr.trans F2 F3))⟩⟩⟩⟩
end
/-! ### x[::-1] of a list or a tuple -/
section
variable {prog : Program} {w : World} {A : Around} {E : Value → Shared → Prop} {s : Shared}
theorem back_run (items : Array Value) : ((List.range items.size).filterMap fun (m : Nat) => items[(((items.size : Int) - 1) + (m : Int) * (-1)).toNat]?) = items.toList.reverse := by
  rw [← PySem.W.krv_all items, ← List.filterMap_reverse, ← PySem.W.krv_range, List.filterMap_map]
  have key : ∀ l : List Nat, (∀ m ∈ l, m < items.size) → l.filterMap (fun (m : Nat) => items[(((items.size : Int) - 1) + (m : Int) * (-1)).toNat]?) = l.filterMap ((fun x => items[x]?) ∘ fun k => items.size - 1 - k) := by
    intro l
    induction l with
    | nil => intro _; rfl
    | cons m l ih =>
      intro hl
      have h0 := hl m List.mem_cons_self
      have e : (((items.size : Int) - 1) + (m : Int) * (-1)).toNat = items.size - 1 - m := by omega
      rw [List.filterMap_cons, List.filterMap_cons, ih fun k hk => hl k (List.mem_cons_of_mem _ hk), e]
      rfl
  exact key _ fun m hm => List.mem_range.mp hm
theorem back_adjust (n : Int) : Builtin.Slice.sliceAdjust none none (-1) n = (n - 1, -1) := by
  unfold Builtin.Slice.sliceAdjust
  rfl
theorem back_places (n : Nat) : Builtin.Slice.slicePlaces ((n : Int) - 1) (-1) (-1) = n := by
  unfold Builtin.Slice.slicePlaces
  have e : (-(-1) : Int) = 1 := by decide
  rw [if_neg (by omega), e, Int.ediv_one]
  split <;> omega
theorem back_applied {sl : Addr} {u : Tok} {n : Nat} {Q : Int × Int × Nat → Shared → Prop} (hs : s.heap.IsSliceOf sl .none .none (.int (-1) u)) (h : Q ((n : Int) - 1, -1, n) s) :
    wpAny (model prog w) A (Builtin.Slice.sliceApplied (.ref sl) (pure (n : Int))) Q E s := by
  obtain ⟨os, hos, hcs, hds⟩ := id hs
  unfold Builtin.Slice.sliceApplied Builtin.Slice.sliceFields
  refine wpAny_bind (wpAny_bind (wpAny_field hos hds (x := .none) rfl (wpAny_bind (wpAny_field hos hds (x := .none) rfl (wpAny_bind (wpAny_field hos hds (x := .int (-1) u) rfl (wpAny_pure ?_)))))))
  refine wpAny_bind (HT.slicePart_ (.int (-1) u) ?_)
  show wpAny _ _ (if ((-1 : Int) == 0) = true then _ else _) _ _ s
  rw [if_neg (by decide)]
  refine wpAny_bind (HT.slicePart_ .none (wpAny_bind (HT.slicePart_ .none (wpAny_bind (wpAny_pure ?_)))))
  show wpAny _ _ (match Builtin.Slice.sliceAdjust none none (-1) (n : Int) with | (lo, hi) => pure (lo, (-1 : Int), Builtin.Slice.slicePlaces lo hi (-1))) _ _ s
  rw [back_adjust]
  show wpAny _ _ (pure ((n : Int) - 1, (-1 : Int), Builtin.Slice.slicePlaces ((n : Int) - 1) (-1) (-1))) _ _ s
  rw [back_places]
  exact wpAny_pure h
theorem back_tuple {t sl : Addr} {items : Array Value} {u : Tok} {Q : Value → Shared → Prop} (ht : IsTup s.heap t items) (hs : s.heap.IsSliceOf sl .none .none (.int (-1) u))
    (h : Q (.ref s.heap.objs.size) { s with heap := s.heap.push { cls := .type "tuple", data := .seq items.toList.reverse.toArray } }) (hsz : items.size ≤ sizeLine) :
    wpAny (model prog w) A (getItem (.ref t) (.ref sl)) Q E s := by
  have hok : sizeOk (.seq items.toList.reverse.toArray) := by
    show items.toList.reverse.toArray.size ≤ sizeLine
    rw [List.size_toArray, List.length_reverse, Array.length_toList]
    exact hsz
  obtain ⟨os, hos, hcs, hds⟩ := id hs
  have hTs : s.TypeIs (.ref sl) "slice" := ⟨os, hos, hcs⟩
  unfold getItem
  try with_reducible refine wpAny_holding ?_
  first | refine wpAny_bind (wpAny_pure ?_) | skip
  refine wpAny_bind (wpAny_sequenceKey ht.typeIs (by decide) ?_)
  refine wpAny_bind (wpAny_callSpecial?_slot (name := Str.ofString "__getitem__") ht.typeIs PyProof.Rows.slot_tuple_getitem (wpAny_call_entry PyProof.Rows.slot_tuple_getitem ht.typeIs entry_tuple_getitem ?_ (args_tuple_getitem _ _)))
  show wpAny _ _ (Builtin.Tuple.tupleItemsOf (.ref t) >>= _) _ _ s
  refine wpAny_bind (tupleItemsOf_ ht (wpAny_bind (wpAny_typeOf hTs ?_)))
  rw [if_pos (by decide)]
  refine wpAny_bind (back_applied hs ?_)
  show wpAny _ _ (if ((((items.size : Int) - 1) == 0 && (-1 : Int) == 1) && items.size == items.size) = true then _ else _) _ _ s
  rw [if_neg (by rw [show ((-1 : Int) == 1) = false by decide, Bool.and_false, Bool.false_and]; decide), back_run]
  first
    | exact wpAny_bind (m := Builtin.Tuple.tupleExact _) (wpAny_newObj_type (wpAny_pure ⟨_, rfl, wpAny_pure h⟩) hok)
    | exact wpAny_bind (m := Builtin.Tuple.tupleExact _) (wpAny_newObj_type (wpAny_bind (wpAny_pure (wpAny_pure ⟨_, rfl, wpAny_pure h⟩))) hok)
    | exact wpAny_bind (wpAny_bind (m := Builtin.Tuple.tupleExact _) (wpAny_newObj_type (wpAny_pure (wpAny_pure ⟨_, rfl, wpAny_pure h⟩)) hok))
    | exact wpAny_bind (wpAny_bind (m := Builtin.Tuple.tupleExact _) (wpAny_newObj_type (wpAny_pure ⟨_, rfl, wpAny_pure h⟩) hok))
end
section
variable {X : Cx} {pos p p2 : Pos} {a b c e : Expr} {es rest : List Expr} {ta tb tc te : TEd} {t : TAd}
def dRev (te : TEd) : TEd := fun e st Q => te e st fun x st1 => match x with
  | .d (.tuple xs) => Q (.d (.tuple xs.reverse)) st1
  | x => ∃ ds, lstOf x st1 = some ds ∧ mkL ds.reverse st1 Q
theorem pd_rev {k : Nat} {p1 p2 p3 : Pos} (he : PD X e te) : PD X (.Subscript e (.Slice none none (some (.UnaryOp .USub (.Constant (.int 1) k p1) p2)) p3) pos) (dRev te) := by
  refine ⟨fun pins s σ H Q I ⟨en, st, hid, Qd, re, S, h, kk⟩ => ?_⟩
  refine Subscript_ (thn (he.run pins s σ H (fun x H1 => ∃ d st1, FrX st hid H st1 H1 ∧ Sx X.K st1 hid H1 ∧ DvD X.K (jn st1 hid) H1 x d ∧ (match d with
    | .d (.tuple xs) => Qd (.d (.tuple xs.reverse)) st1
    | x => ∃ ds, lstOf x st1 = some ds ∧ mkL ds.reverse st1 Qd)) I ⟨en, st, hid, _, re, S, h, fun v H' d st' F S r q => ⟨d, st', F, S, r, q⟩⟩) fun v s1 ⟨x, H1, I1, r1, d, st1, F1, S1, r, q1⟩ => ?_)
  have hst : PO X (some (.UnaryOp .USub (.Constant (.int 1) k p1) p2)) (tPart (tUn (rU fun i => .int (-i)) (tC (.int 1)))) := po_some (pe_un un_neg pe_int)
  refine wpAny_Slice (thn (po_none.run pins s1 σ H1 (fun o H2 => o = none ∧ H2 = H1) I1 ⟨rfl, rfl⟩) fun vl s2 ⟨l, H2, I2, pl, el, e2⟩ => ?_)
  subst el e2
  refine thn (po_none.run pins s2 σ H2 (fun o H3 => o = none ∧ H3 = H2) I2 ⟨rfl, rfl⟩) fun vu s3 ⟨u, H3, I3, pu, eu, e3⟩ => ?_
  subst eu e3
  refine thn (hst.run pins s3 σ H3 (fun o H4 => o = some (-1) ∧ H4 = H3) I3 ⟨1, rfl, -1, rfl, rfl, rfl⟩) fun vs s4 ⟨o, H4, I4, ps, eo, e4⟩ => ?_
  subst eo e4
  have I5 : Inv X pins σ H4 { s4 with heap := s4.heap.push { cls := .type "slice", data := .fields #[vl, vu, vs] } } := I4.kept (t' := s4.toks) fun b ob q => Heap.get?_push_of_some _ q
  cases pl
  cases pu
  rcases ps with _ | ⟨_, tk⟩
  split at q1
  · rename_i xs
    obtain ⟨a, ws, rfl, h1, r2⟩ := tup_at r
    cases r1
    obtain ⟨its, rv, ht, hz⟩ := I5.tuple h1
    have hlen := rv.length
    show wpAny (model X.prog X.w) X.A (subscriptTail e (.Slice none none (some (.UnaryOp .USub (.Constant (.int 1) k p1) p2)) p3) (.ref a) (.ref s4.heap.objs.size)) (EP X pins σ Q) X.xe { s4 with heap := s4.heap.push { cls := .type "slice", data := .fields #[.none, .none, .int (-1) tk] } }
    refine tail_any (ops := [.ref a, .ref s4.heap.objs.size]) ht.typeIs (PyProof.Rows.slot_tuple_getitem.lookup) ?_ (by with_unfolding_all rfl)
    refine back_tuple ht (Heap.IsSliceOf.new _ .none .none (.int (-1) tk)) ?_ (by rw [List.size_toArray]; omega)
    have hn := I5.hok.fresh (Nat.le_refl _)
    refine ⟨.ref _, _, I5.laid (t' := s4.toks) (o := .tup ws.reverse) (fun b ob q => Heap.get?_push_of_some _ q) (Nat.le_refl _) ?_, rfl, (Go.mono kk F1).new S1 hn (.d (.tup (.inl (.inl upd_same)) (Dvs.of ?_))) q1⟩
    · exact ⟨by rw [List.length_reverse]; exact hz, _, rv.reverse, IsTup.new _ _⟩
    · rw [List.map_reverse]
      exact ((Dvs.to r2).reverse).mono (fr_new hn) S1.sr
  · obtain ⟨ds, e1, q⟩ := q1
    obtain ⟨a, ws, rfl, h1, r2⟩ := lstOf_at r S1 e1
    cases r1
    obtain ⟨its, rv, ht, hz⟩ := I5.list h1
    have hlen := rv.length
    show wpAny (model X.prog X.w) X.A (subscriptTail e (.Slice none none (some (.UnaryOp .USub (.Constant (.int 1) k p1) p2)) p3) (.ref a) (.ref s4.heap.objs.size)) (EP X pins σ Q) X.xe { s4 with heap := s4.heap.push { cls := .type "slice", data := .fields #[.none, .none, .int (-1) tk] } }
    refine tail_any (ops := [.ref a, .ref s4.heap.objs.size]) ht.isList.typeIs (PySem.slot_list_getitem.lookup) ?_ (by with_unfolding_all rfl)
    refine wpAny_getItem_list_slice ht.isList (Heap.IsSliceOf.new _ .none .none (.int (-1) tk)) .none .none (.int (-1) tk) (by decide) ?_ (by rw [List.size_toArray]; omega)
    rw [PySem.W.krv_pick]
    have hn := I5.hok.fresh (Nat.le_refl _)
    refine ⟨.ref _, _, I5.laid (t' := s4.toks) (o := .lst ws.reverse) (fun b ob q => Heap.get?_push_of_some _ q) (Nat.le_refl _) ?_, rfl, mkL_go q S1 hn r2.reverse (Go.mono kk F1)⟩
    exact ⟨by rw [List.length_reverse]; exact hz, _, 0, rv.reverse, Heap.get?_push_size _ rfl⟩
end
end DL
namespace DL
open PySem PySem.Spec PyProof.Rows L2
/-! ### calls of what is built in -/
/-- 2 ^ 9000 -/
def big9 : Nat := 2 ^ 9000
abbrev RCd := List D → Sto → Kd → Prop
def upC (K : PySem.W.Frag) (r : RCd) : List V → Hp → VK → Prop := fun vs H Q => ∃ ds st hid Qd, DvsD K (jn st hid) H vs ds ∧ Sx K st hid H ∧ r ds st Qd ∧ Go K st hid H Qd Q
def dCall (r : RCd) (t : TAd) : TEd := fun e st Q => t e st fun ds st1 => r ds st1 Q
theorem CallR.imp {X : Cx} {f : Value} {r r' : List V → Hp → VK → Prop} (h : CallR X f r) (i : ∀ xs H Q, r' xs H Q → r xs H Q) : CallR X f r' := fun pins s σ H xs us Q I rx q => h pins s σ H xs us Q I rx (i xs H Q q)
section
variable {X : Cx} {x : Str} {id T : String} {pos p p2 : Pos} {a b c e : Expr} {es rest : List Expr} {ta tb tc te : TEd} {t : TAd} {r : RCd}
theorem call_imp {K : PySem.W.Frag} {σ : L2.St} {H : Hp} {Q : VK} (w : up K (dCall r t) σ H Q) : tCB (upC K r) (upA K t) σ H Q := by
  obtain ⟨e, st, hid, Qd, re, S, h, k⟩ := w
  exact ⟨e, st, hid, _, re, S, h, fun vs H1 ds st1 F1 S1 r1 h1 => ⟨ds, st1, hid, Qd, r1, S1, h1, k.mono F1⟩⟩
theorem pd_callB (hc : CallR X (.builtin id) (upC X.K r)) (hg : Gl X x) (hm : X.mg x = none) (hv : bootBuiltins x = some (.builtin id)) (ha : PDA X (e :: es) t) (hn : x ≠ "__name__" := by decide) (hdb : (x == ("__debug__" : Str)) = false := by decide)
    (he : starEach (e :: es) X.env = (false, eval e X.env) :: starEach es X.env := by rfl) (hpl : (backTo pos (starEach es X.env)).any (·.1) = false := by rfl) : PD X (.Call (.Name x p) (e :: es) [] pos) (dCall r t) :=
  PE.imp (pe_callB hc hg hm hv ha hn hdb he hpl) fun _ _ _ => call_imp
theorem pd_callTy (hc : CallR X (.type T) (upC X.K r)) (hg : Gl X x) (hm : X.mg x = none) (hv : bootBuiltins x = some (.type T)) (ha : PDA X (e :: es) t) (hn : x ≠ "__name__" := by decide) (hdb : (x == ("__debug__" : Str)) = false := by decide)
    (he : starEach (e :: es) X.env = (false, eval e X.env) :: starEach es X.env := by rfl) (hpl : (backTo pos (starEach es X.env)).any (·.1) = false := by rfl) : PD X (.Call (.Name x p) (e :: es) [] pos) (dCall r t) :=
  PE.imp (pe_callTy hc hg hm hv ha hn hdb he hpl) fun _ _ _ => call_imp
theorem pd_callM (hc : CallR X (.builtin id) (upC X.K r)) (hg : Gl X x) (hm : X.mg x = some (.builtin id)) (ha : PDA X (e :: es) t) (hdb : (x == ("__debug__" : Str)) = false := by decide)
    (he : starEach (e :: es) X.env = (false, eval e X.env) :: starEach es X.env := by rfl) (hpl : (backTo pos (starEach es X.env)).any (·.1) = false := by rfl) : PD X (.Call (.Name x p) (e :: es) [] pos) (dCall r t) :=
  PE.imp (pe_callBfun hc hg hm ha hdb he hpl) fun _ _ _ => call_imp
theorem DvsD.one {K : PySem.W.Frag} {st : Sto} {H : Hp} {vs : List V} {d : D} (r : DvsD K st H vs [d]) : ∃ v, vs = [v] ∧ DvD K st H v d := by
  cases r with
  | cons h t =>
    cases t
    exact ⟨_, rfl, h⟩
theorem DvsD.two {K : PySem.W.Frag} {st : Sto} {H : Hp} {vs : List V} {d d' : D} (r : DvsD K st H vs [d, d']) : ∃ v v', vs = [v, v'] ∧ DvD K st H v d ∧ DvD K st H v' d' := by
  cases r with
  | cons h t =>
    cases t with
    | cons h' t' =>
      cases t'
      exact ⟨_, _, rfl, h, h'⟩
/-- of one int -/
def rC1 (C : Int → Prop) (g : Int → PyData) : RCd := fun ds st Q => match ds with
  | [.d (.int i)] => C i ∧ Q (.d (g i)) st
  | _ => False
def rC2 (C : Int → Int → Prop) (g : Int → Int → PyData) : RCd := fun ds st Q => match ds with
  | [.d (.int i), .d (.int j)] => C i j ∧ Q (.d (g i j)) st
  | _ => False
theorem rC1_at {K : PySem.W.Frag} {C : Int → Prop} {g : Int → PyData} {vs : List V} {ds : List D} {st hid : Sto} {H : Hp} {Q : Kd} (r : DvsD K (jn st hid) H vs ds) (h : rC1 C g ds st Q) : ∃ i, vs = [.int i] ∧ C i ∧ Q (.d (g i)) st := by
  unfold rC1 at h
  split at h
  · obtain ⟨v, rfl, r1⟩ := r.one
    cases int_at r1
    exact ⟨_, rfl, h.1, h.2⟩
  · exact h.elim
theorem rC2_at {K : PySem.W.Frag} {C : Int → Int → Prop} {g : Int → Int → PyData} {vs : List V} {ds : List D} {st hid : Sto} {H : Hp} {Q : Kd} (r : DvsD K (jn st hid) H vs ds) (h : rC2 C g ds st Q) : ∃ i j, vs = [.int i, .int j] ∧ C i j ∧ Q (.d (g i j)) st := by
  unfold rC2 at h
  split at h
  · obtain ⟨v, v', rfl, r1, r2⟩ := r.two
    cases int_at r1
    cases int_at r2
    exact ⟨_, _, rfl, h.1, h.2⟩
  · exact h.elim
def cAbs : RCd := rC1 (fun _ => True) fun i => .int (if i < 0 then -i else i)
def cInt : RCd := rC1 (fun _ => True) fun i => .int i
def cStrI : RCd := rC1 (fun i => i.natAbs.log2 < 1920) fun i => .str (toString i)
def cDivmod : RCd := rC2 CDivP fun i j => .tuple [.int (i / j), .int (i % j)]
def cMin : RCd := rC2 (fun _ _ => True) fun i j => .int (if j < i then j else i)
def cMax : RCd := rC2 (fun _ _ => True) fun i j => .int (if j > i then j else i)
def cGcd : RCd := rC2 (fun _ _ => True) fun i j => .int ((Nat.gcd i.natAbs j.natAbs : Nat) : Int)
def cLcm : RCd := rC2 (fun i j => i.natAbs < big9 ∧ j.natAbs < big9) fun i j => .int ((Nat.lcm i.natAbs j.natAbs : Nat) : Int)
theorem c_abs : CallR X (.builtin "abs") (upC X.K cAbs) := CallR.imp call_abs fun vs H Q ⟨ds, st, hid, Qd, r, S, w, k⟩ => by
  obtain ⟨i, rfl, _, q⟩ := rC1_at r w
  exact ⟨i, rfl, k.now S (.d (.int _)) q⟩
theorem c_int : CallR X (.type "int") (upC X.K cInt) := CallR.imp call_int1 fun vs H Q ⟨ds, st, hid, Qd, r, S, w, k⟩ => by
  obtain ⟨i, rfl, _, q⟩ := rC1_at r w
  exact .inl ⟨i, rfl, k.now S (.d (.int _)) q⟩
theorem c_str : CallR X (.type "str") (upC X.K cStrI) := CallR.imp call_str_int fun vs H Q ⟨ds, st, hid, Qd, r, S, w, k⟩ => by
  obtain ⟨i, rfl, h, q⟩ := rC1_at r w
  exact ⟨i, rfl, h, k.now S (.d (.str _)) q⟩
theorem c_min (hc : X.calm = true) : CallR X (.builtin "min") (upC X.K cMin) := CallR.imp (call_min2 hc) fun vs H Q ⟨ds, st, hid, Qd, r, S, w, k⟩ => by
  obtain ⟨i, j, rfl, _, q⟩ := rC2_at r w
  exact ⟨i, j, rfl, k.now S (.d (.int _)) q⟩
theorem c_max (hc : X.calm = true) : CallR X (.builtin "max") (upC X.K cMax) := CallR.imp (call_max2 hc) fun vs H Q ⟨ds, st, hid, Qd, r, S, w, k⟩ => by
  obtain ⟨i, j, rfl, _, q⟩ := rC2_at r w
  exact ⟨i, j, rfl, k.now S (.d (.int _)) q⟩
theorem c_gcd : CallR X (.builtin "math.gcd") (upC X.K cGcd) := CallR.imp cr_gcd fun vs H Q ⟨ds, st, hid, Qd, r, S, w, k⟩ => by
  obtain ⟨i, j, rfl, _, q⟩ := rC2_at r w
  exact ⟨i, j, rfl, k.now S (.d (.int _)) q⟩
theorem c_divmod : CallR X (.builtin "divmod") (upC X.K cDivmod) := CallR.imp call_divmodW fun vs H Q ⟨ds, st, hid, Qd, r, S, w, k⟩ => by
  obtain ⟨i, j, rfl, h, q⟩ := rC2_at r w
  exact ⟨i, j, rfl, h, fun p hp => k.new S hp (.d (.tup (.inl (.inl upd_same)) (.cons (.int _) (.cons (.int _) .nil)))) q⟩
theorem big_log {n : Nat} (h : n < big9) : ¬ n.log2 / 30 + 1 > 450 := by
  unfold big9 at h
  have := PySem.W.mg_log (k := 8999) h
  omega
theorem c_lcm : CallR X (.builtin "math.lcm") (upC X.K cLcm) := fun pins s σ H vs us Q I rx ⟨ds, st, hid, Qd, r, S, w, k⟩ => by
  obtain ⟨i, j, rfl, ⟨hi, hj⟩, q⟩ := rC2_at r w
  obtain ⟨t, u, rfl⟩ := Vals.int2 rx
  have one : Nat.lcm 1 i.natAbs = i.natAbs := PySem.W.mc_lcm_one _
  have p1 : (1 : Nat) < big9 := by
    unfold big9
    exact Nat.one_lt_two_pow (by decide)
  have hm : max 1 i.natAbs < big9 := Nat.max_lt.mpr ⟨p1, hi⟩
  have hm2 : max i.natAbs j.natAbs < big9 := Nat.max_lt.mpr ⟨hi, hj⟩
  have hl : (i.natAbs.lcm j.natAbs).log2 < bitsLine := PySem.W.mc_size (k := 300) (Nat.le_trans (PySem.W.mc_lcm_le _ _) (by
    have h1 : i.natAbs * j.natAbs ≤ big9 * big9 := Nat.mul_le_mul (Nat.le_of_lt hi) (Nat.le_of_lt hj)
    unfold big9 at h1
    rw [← Nat.pow_add] at h1
    exact Nat.le_trans h1 (Nat.pow_le_pow_right (by decide) (by decide)))) (by decide)
  have g := PySem.W.mg_run_lcm i t j u (big_log hm) (big_log hm2) (by rw [one]; exact hl)
  rw [one] at g
  exact PySem.call_function_meets PySem.W.MGF.kind_lcm PySem.W.MGF.plain_lcm PySem.W.MGF.entry_lcm (PySem.W.MGF.args_lcm _ _) g.meets ⟨.int _, H, I.tok _, ⟨_, rfl⟩, k.now S (.d (.int _)) q⟩
def cLen : RCd := fun ds st Q => match ds with
  | [.d (.tuple xs)] => Q (.d (.int xs.length)) st
  | [.d (.str z)] => z.length ≤ sizeLine ∧ Q (.d (.int z.length)) st
  | [x] => ∃ ds, lstOf x st = some ds ∧ Q (.d (.int ds.length)) st
  | _ => False
theorem c_len : CallR X (.builtin "len") (upC X.K cLen) := fun pins s σ H vs us Q I rx ⟨ds, st, hid, Qd, r, S, w, k⟩ => by
  unfold cLen at w
  split at w
  · obtain ⟨v, rfl, r1⟩ := r.one
    obtain ⟨a, ws, rfl, h1, r2⟩ := tup_at r1
    rw [← r2.length] at w
    exact call_len_seq pins s σ H _ us Q I rx ⟨a, ws, rfl, .inr h1, k.now S (.d (.int _)) w⟩
  · obtain ⟨v, rfl, r1⟩ := r.one
    cases str_at r1
    exact call_len_str pins s σ H _ us Q I rx ⟨_, rfl, w.1, k.now S (.d (.int _)) w.2⟩
  · obtain ⟨v, rfl, r1⟩ := r.one
    obtain ⟨ds, e, q⟩ := w
    obtain ⟨a, ws, rfl, h1, r2⟩ := lstOf_at r1 S e
    rw [← Paired.length r2] at q
    exact call_len_seq pins s σ H _ us Q I rx ⟨a, ws, rfl, .inl h1, k.now S (.d (.int _)) q⟩
  · exact w.elim
theorem bools_at {K : PySem.W.Frag} {st : Sto} {H : Hp} : ∀ {vs : List V} {bs : List Bool}, DvsD K st H vs (bs.map fun b => .d (.bool b)) → vs = bs.map V.bl
  | [], [], _ => rfl
  | _ :: _, b :: bs, .cons (.d h) t => by
    cases h
    rw [bools_at t]
    rfl
def cAll : RCd := fun ds st Q => match ds with
  | [x] => ∃ bs : List Bool, lstOf x st = some (bs.map fun b => .d (.bool b)) ∧ Q (.d (.bool (bs.all _root_.id))) st
  | _ => False
theorem c_all (hc : X.calm = true) : CallR X (.builtin "all") (upC X.K cAll) := CallR.imp (cr_all hc) fun vs H Q ⟨ds, st, hid, Qd, r, S, w, k⟩ => by
  unfold cAll at w
  split at w
  · obtain ⟨v, rfl, r1⟩ := r.one
    obtain ⟨bs, e, q⟩ := w
    obtain ⟨a, ws, rfl, h1, r2⟩ := lstOf_at r1 S e
    rw [bools_at r2] at h1
    exact ⟨a, bs, rfl, h1, k.now S (.d (.bl _)) q⟩
  · exact w.elim
/-- list(x) -/
def cList : RCd := fun ds st Q => match ds with
  | [.d (.tuple xs)] => mkL (xs.map D.d) st Q
  | [x] => ∃ ds, lstOf x st = some ds ∧ mkL ds st Q
  | _ => False
theorem c_list : CallR X (.type "list") (upC X.K cList) := CallR.imp call_list_of fun vs H Q ⟨ds, st, hid, Qd, r, S, w, k⟩ => by
  unfold cList at w
  split at w
  · obtain ⟨v, rfl, r1⟩ := r.one
    obtain ⟨a, ws, rfl, h1, r2⟩ := tup_at r1
    exact ⟨a, ws, rfl, .inr h1, fun l hl => mkL_go w S hl (Dvs.to r2) k⟩
  · obtain ⟨v, rfl, r1⟩ := r.one
    obtain ⟨ds, e, q⟩ := w
    obtain ⟨a, ws, rfl, h1, r2⟩ := lstOf_at r1 S e
    exact ⟨a, ws, rfl, .inl h1, fun l hl => mkL_go q S hl r2 k⟩
  · exact w.elim
/-- .. as a value -/
def cListV : RCd := fun ds st Q => match ds with
  | [.d (.tuple xs)] => Q (.d (.list xs)) st
  | [.d (.list xs)] => Q (.d (.list xs)) st
  | [x] => ∃ xs : List PyData, lstOf x st = some (xs.map D.d) ∧ Q (.d (.list xs)) st
  | _ => False
theorem c_listV : CallR X (.type "list") (upC X.K cListV) := CallR.imp c_list fun vs H Q ⟨ds, st, hid, Qd, r, S, w, k⟩ => by
  refine ⟨ds, st, hid, Qd, r, S, ?_, k⟩
  unfold cListV at w
  split at w
  · exact .inl ⟨_, pures_map _, w⟩
  · exact ⟨_, rfl, .inl ⟨_, pures_map _, w⟩⟩
  · rename_i x n1 n2
    obtain ⟨xs, e, q⟩ := w
    unfold cList
    split
    · rename_i h
      cases h
      exact absurd rfl (n1 _)
    · rename_i h
      cases h
      exact ⟨_, e, .inl ⟨_, pures_map _, q⟩⟩
    · rename_i n4
      exact absurd rfl (n4 x)
  · exact w.elim
/-- tuple(x) -/
def cTuple : RCd := fun ds st Q => match ds with
  | [.d (.tuple xs)] => Q (.d (.tuple xs)) st
  | [x] => ∃ xs : List PyData, lstOf x st = some (xs.map D.d) ∧ Q (.d (.tuple xs)) st
  | _ => False
theorem c_tuple : CallR X (.type "tuple") (upC X.K cTuple) := CallR.imp call_tuple_of fun vs H Q ⟨ds, st, hid, Qd, r, S, w, k⟩ => by
  unfold cTuple at w
  split at w
  · obtain ⟨v, rfl, r1⟩ := r.one
    obtain ⟨a, ws, rfl, h1, r2⟩ := tup_at r1
    exact ⟨a, ws, rfl, .inr ⟨h1, k.now S r1 w⟩⟩
  · obtain ⟨v, rfl, r1⟩ := r.one
    obtain ⟨xs, e, q⟩ := w
    obtain ⟨a, ws, rfl, h1, r2⟩ := lstOf_at r1 S e
    exact ⟨a, ws, rfl, .inl ⟨h1, fun l hl => k.new S hl (.d (.tup (.inl (.inl upd_same)) ((Dvs.of r2).mono (fr_new hl) S.sr))) q⟩⟩
  · exact w.elim
/-- repr(x) -/
def cRepr : RCd := fun ds st Q => match ds with
  | [.d x] => x.hasDict = false ∧ x.showable = true ∧ x.shown.length ≤ sizeLine ∧ x.depth ≤ 64 ∧ Q (.d (.str x.shown)) st
  | _ => False
theorem c_repr (hG : X.A.guards = some []) (hu : X.A.units + 65 < cLine) : CallR X (.builtin "repr") (upC X.K cRepr) := fun pins s σ H vs us Q I rx ⟨ds, st, hid, Qd, r, S, w, k⟩ => by
  unfold cRepr at w
  split at w
  · rename_i x
    obtain ⟨v, rfl, r1⟩ := r.one
    obtain ⟨h1, h2, h3, h4, q⟩ := w
    cases r1 with
    | d r1 =>
      obtain ⟨u, rfl, ru⟩ := vals1 rx
      have fin : ∀ {h' : Heap} {uu : Tok} {tk : Nat}, (∀ b o, s.heap.get? b = some o → h'.get? b = some o) → EP X pins σ Q (.str x.shown uu) { s with heap := h', toks := tk } := fun {h' uu tk} kp => ⟨.str _, H, I.kept kp, ⟨_, rfl⟩, k.now S (.d (.str _)) q⟩
      cases r1 with
      | non =>
        cases ru
        exact PySem.P.repr_of_none (fin fun _ _ e => e)
      | bl b =>
        cases ru
        have := fin (h' := s.heap) (uu := s.toks) (tk := s.toks + 1) fun _ _ e => e
        rw [PyData.shown_bool] at this
        exact PySem.P.repr_of_bool this
      | int i =>
        obtain ⟨t, rfl⟩ := ru
        have := fin (h' := s.heap) (uu := s.toks) (tk := s.toks + 1) fun _ _ e => e
        rw [PyData.shown_int] at this
        exact PySem.P.repr_of_int (by simpa [PyData.showable] using h2) this
      | str i =>
        obtain ⟨t, rfl⟩ := ru
        have := fin (h' := s.heap) (uu := s.toks) (tk := s.toks + 1) fun _ _ e => e
        rw [PyData.shown_str] at this h3
        exact PySem.P.repr_of_str this h3
      | lst h f rr =>
        cases ru
        obtain ⟨as, rd⟩ := Dp.reads I _ _ _ ((Dv.lst h f rr).dp h1) rfl
        exact repr_of_reads' rd h2 (fun z => by rw [h1] at z; cases z) hG (by omega) (fun _ _ e => e) (fun h' u tk kp => fin kp) h3
      | tup h rr =>
        cases ru
        obtain ⟨as, rd⟩ := Dp.reads I _ _ _ ((Dv.tup h rr).dp h1) rfl
        exact repr_of_reads' rd h2 (fun z => by rw [h1] at z; cases z) hG (by omega) (fun _ _ e => e) (fun h' u tk kp => fin kp) h3
      | dic h f rr qq =>
        cases h1
  · exact w.elim
/-! ### isinstance(x, T) -/
def tyD : D → String
  | .d .none => "NoneType"
  | .d (.bool _) => "bool"
  | .d (.int _) => "int"
  | .d (.str _) => "str"
  | .d (.tuple _) => "tuple"
  | .d (.dict _) => "dict"
  | _ => "list"
def isT (T : String) (d : D) : Bool := (kitB (tyD d) T).getD false
theorem ty_at {K : PySem.W.Frag} {st : Sto} {H : Hp} {v : V} {d : D} (r : DvD K st H v d) (S : SR K st H) (ho : ∀ a, d = .own a → (st a).isSome = true) : TyX K H v (.type (tyD d)) := by
  cases r with
  | own a =>
    obtain ⟨ds, e⟩ := Option.isSome_iff_exists.mp (ho a rfl)
    obtain ⟨xs, h, _⟩ := S a ds e
    exact .base (.lst h)
  | scr h f =>
    rcases h with (h | ⟨o, h⟩) | ⟨o, its, n, h, hc, _⟩
    · exact .base (.lst h)
    · exact .base (.frz h)
    · exact .kList h hc
  | d h =>
    cases h with
    | non => exact .base .non
    | bl b => exact .base (.bl b)
    | int i => exact .base (.int i)
    | str i => exact .base (.str i)
    | lst h f r => exact .base (.lst h)
    | dic h f r q => exact .base (.dK h)
    | tup h r =>
      rcases h with (h | ⟨o, h⟩) | ⟨o, its, n, h, hc, _⟩
      · exact .base (.tup h)
      · exact .fTuple h
      · exact .kTuple h hc
def dIs (T : String) (te : TEd) : TEd := fun e st Q => te e st fun d st1 => (∀ a, d = .own a → (st1 a).isSome = true) ∧ (kitB (tyD d) T).isSome = true ∧ Q (.d (.bool (isT T d))) st1
theorem pd_is {y : Str} (hg : Gl X "isinstance") (hm : X.mg "isinstance" = none) (hg2 : Gl X y) (hm2 : X.mg y = none) (hv2 : bootBuiltins y = some (.type T)) (he : PD X e te) (hv : bootBuiltins "isinstance" = some (.builtin "isinstance") := by rfl)
    (hn2 : y ≠ "__name__" := by decide) (hd2 : (y == ("__debug__" : Str)) = false := by decide)
    (h1 : starEach [.Name y p2] X.env = [(false, eval (.Name y p2) X.env)] := by rfl) (hs : starEach [e, .Name y p2] X.env = (false, eval e X.env) :: starEach [.Name y p2] X.env := by rfl) (hpl : (backTo pos (starEach [.Name y p2] X.env)).any (·.1) = false := by rfl) :
    PD X (.Call (.Name "isinstance" p) [e, .Name y p2] [] pos) (dIs T te) :=
  PE.imp (pe_callB call_isi hg hm hv (pa_cons he (pa_cons (pe_bltn (v := .ty T) hg2 hm2 hv2 rfl hn2 hd2) pa_nil h1) hs) (by decide) (by decide) hs hpl) fun σ H Q ⟨e, st, hid, Qd, re, S, h, k⟩ => ⟨e, st, hid, _, re, S, h, fun v H1 d st1 F1 S1 r ⟨h0, h1, q⟩ => by
    obtain ⟨b, hb⟩ := Option.isSome_iff_exists.mp h1
    have eb : isT T d = b := by
      unfold isT
      rw [hb]
      rfl
    rw [eb] at q
    exact ⟨v, .ty T, .type (tyD d), .type T, b, rfl, .ty T, ty_at r S1.sr (fun a z => by
      obtain ⟨ds, e⟩ := Option.isSome_iff_exists.mp (h0 a z)
      rw [jn_some e]
      rfl), kit_ty hb, (Go.mono k F1).now S1 (.d (.bl b)) q⟩⟩
end
end DL
namespace DL
open PySem PySem.Spec PyProof.Rows L2
/-! ### what is walked -/
structure ItD where
  xs : List D
  dep : Option (Addr × List D) := none
def ItD.at (it : ItD) (st : Sto) : Prop := ∀ a ds, it.dep = some (a, ds) → st a = some ds
/-- J walks just these, whatever is laid meanwhile -/
def ItOk (K : PySem.W.Frag) (F0 : Sto) (H0 : Hp) (J : It) (it : ItD) : Prop := ∀ (i : Nat) (F : Sto) (H : Hp), Fr F0 H0 F H → SR K F H → it.at F →
  (∀ d, it.xs[i]? = some d → J.go i H ∧ ∀ x H', J.yld i H x H' → Fr F H F H' ∧ SR K F H' ∧ DvD K F H' x d) ∧ (it.xs.length ≤ i → J.stop i H)
abbrev TId := Ed → Sto → (ItD → Sto → Prop) → Prop
def upI (K : PySem.W.Frag) (t : TId) : TI := fun σ H R => ∃ e st hid Rd, RE K (jn st hid) H σ e ∧ Sx K st hid H ∧ t e st Rd ∧ ∀ J H' it st', FrX st hid H st' H' → Sx K st' hid H' → ItOk K (jn st' hid) H' J it → it.at st' → Rd it st' → R J H'
abbrev PDI (X : Cx) (tg iter : Expr) (t : TId) : Prop := PI X tg iter (upI X.K t)
theorem PI.imp {X : Cx} {tg iter : Expr} {t t' : TI} (h : PI X tg iter t) (i : ∀ σ H Q, t' σ H Q → t σ H Q) : PI X tg iter t' := ⟨fun pins s σ H Q I w => h.run pins s σ H Q I (i σ H Q w)⟩
def dIter (te : TEd) : TId := fun e st R => te e st fun d st1 => match d with
  | .d (.tuple xs) => R ⟨xs.map D.d, none⟩ st1
  | .d (.list xs) => R ⟨xs.map D.d, none⟩ st1
  | .own a => ∃ ds, st1 a = some ds ∧ R ⟨ds, some (a, ds)⟩ st1
  | .scr ns => R ⟨ns.map fun n => .d (.int n), none⟩ st1
  | _ => False
section
variable {K : PySem.W.Frag} {F0 : Sto} {H0 : Hp} {a : Addr}
theorem Fr.same {F : Sto} {H : Hp} {H' : Hp} (e : H' = H) : Fr F H F H' := by
  subst e
  exact Fr.refl _ _
theorem itok_tup {vs : List V} {xs : List PyData} (h : SqT K H0 a vs) (r : Dvs K F0 H0 vs xs) (S0 : SR K F0 H0) : ItOk K F0 H0 (Itt K a) ⟨xs.map D.d, none⟩ := fun i F H fr S _ => by
  have h' := sqT_mono fr S0 h
  have r' := r.mono fr S0
  refine ⟨fun d e => ?_, fun z => ⟨vs, h', by
    have z' : (xs.map D.d).length ≤ i := z
    rw [List.length_map] at z'
    rw [r'.length]
    exact z'⟩⟩
  obtain ⟨v, e1, r1⟩ := (Dvs.to r').get e
  refine ⟨⟨vs, v, h', e1⟩, fun x H' ⟨eh, y⟩ => ?_⟩
  subst eh
  have e2 := y vs h'
  rw [e1] at e2
  cases e2
  exact ⟨Fr.refl _ _, S, r1⟩
theorem itok_lst {vs : List V} {xs : List PyData} (h : H0 a = some (.lst vs)) (f : F0 a = none) (r : Dvs K F0 H0 vs xs) (S0 : SR K F0 H0) : ItOk K F0 H0 (Itl K a) ⟨xs.map D.d, none⟩ := fun i F H fr S _ => by
  have h' : SqL K H a vs := .inl (.inl (fr a _ h f).1)
  have r' := r.mono fr S0
  refine ⟨fun d e => ?_, fun z => ⟨vs, h', by
    have z' : (xs.map D.d).length ≤ i := z
    rw [List.length_map] at z'
    rw [r'.length]
    exact z'⟩⟩
  obtain ⟨v, e1, r1⟩ := (Dvs.to r').get e
  refine ⟨⟨vs, v, h', e1⟩, fun x H' ⟨eh, y⟩ => ?_⟩
  subst eh
  have e2 := y vs h'
  rw [e1] at e2
  cases e2
  exact ⟨Fr.refl _ _, S, r1⟩
theorem itok_own {ds : List D} : ItOk K F0 H0 (Itl K a) ⟨ds, some (a, ds)⟩ := fun i F H fr S at_ => by
  obtain ⟨vs, h, r⟩ := S a ds (at_ a ds rfl)
  have h' : SqL K H a vs := .inl (.inl h)
  refine ⟨fun d e => ?_, fun z => ⟨vs, h', by
    rw [Paired.length r]
    exact z⟩⟩
  obtain ⟨v, e1, r1⟩ := r.get e
  refine ⟨⟨vs, v, h', e1⟩, fun x H' ⟨eh, y⟩ => ?_⟩
  subst eh
  have e2 := y vs h'
  rw [e1] at e2
  cases e2
  exact ⟨Fr.refl _ _, S, r1⟩
theorem itok_scr {ns : List Int} (h : DvD K F0 H0 (.ref a) (.scr ns)) (S0 : SR K F0 H0) : ItOk K F0 H0 (Itl K a) ⟨ns.map fun n => .d (.int n), none⟩ := fun i F H fr S _ => by
  cases h.mono fr S0 with
  | scr h' f =>
    refine ⟨fun d e => ?_, fun z => ⟨_, h', by
      have z' : (ns.map fun n => D.d (.int n)).length ≤ i := z
      rw [List.length_map] at z' ⊢
      exact z'⟩⟩
    obtain ⟨v, e1, r1⟩ := (ints_to (K := K) (st := F) (H := H) ns).get e
    refine ⟨⟨_, v, h', e1⟩, fun x H' ⟨eh, y⟩ => ?_⟩
    subst eh
    have e2 := y _ h'
    rw [e1] at e2
    cases e2
    exact ⟨Fr.refl _ _, S, r1⟩
theorem itok_rng {lo : Int} {n : Nat} : ItOk K F0 H0 (Itr lo n) ⟨(List.range n).map fun (i : Nat) => .d (.int (lo + i)), none⟩ := fun i F H fr S _ => by
  refine ⟨fun d e => ?_, fun z => by
    have z' : ((List.range n).map fun (i : Nat) => D.d (.int (lo + i))).length ≤ i := z
    rw [List.length_map, List.length_range] at z'
    exact z'⟩
  have e' : ((List.range n).map fun (i : Nat) => D.d (.int (lo + i)))[i]? = some d := e
  rw [List.getElem?_map] at e'
  cases q : (List.range n)[i]? with
  | none =>
    rw [q] at e'
    cases e'
  | some j =>
    rw [q] at e'
    have hi : i < n := by
      have := (List.getElem?_eq_some_iff.mp q).1
      rw [List.length_range] at this
      exact this
    rw [List.getElem?_range hi] at q
    cases q
    cases e'
    exact ⟨hi, fun x H' ⟨eh, ex⟩ => by
      subst eh
      subst ex
      exact ⟨Fr.refl _ _, S, .d (.int _)⟩⟩
end
section
variable {X : Cx} {tg e : Expr} {te : TEd}
theorem pdi_seq (he : PD X e te) : PDI X tg e (dIter te) := by
  refine ⟨fun pins s σ H R I ⟨en, st, hid, Rd, re, S, h, k⟩ => ?_⟩
  refine thn (he.run pins s σ H (fun x H1 => ∃ a, x = .ref a ∧ ((∃ xs, SqL X.K H1 a xs) ∧ R (Itl X.K a) H1 ∨ (∃ xs, SqT X.K H1 a xs) ∧ R (Itt X.K a) H1)) I ⟨en, st, hid, _, re, S, h, fun v H1 d st1 F1 S1 r q => ?_⟩) fun v s1 ⟨x, H1, I1, r1, a, ex, q1⟩ => ?_
  · split at q
    · obtain ⟨a, vs, rfl, h1, r2⟩ := tup_at r
      exact ⟨a, rfl, .inr ⟨⟨vs, h1⟩, k _ H1 _ st1 F1 S1 (itok_tup h1 r2 S1.sr) (fun a ds z => nomatch z) q⟩⟩
    · cases r with
      | d r =>
        cases r with
        | lst h f r => exact ⟨_, rfl, .inl ⟨⟨_, .inl (.inl h)⟩, k _ H1 _ st1 F1 S1 (itok_lst h f r S1.sr) (fun a ds z => nomatch z) q⟩⟩
    · cases r with
      | own _ =>
        obtain ⟨ds, e1, q⟩ := q
        obtain ⟨vs, h1, r2⟩ := S1.at_ e1
        exact ⟨_, rfl, .inl ⟨⟨vs, .inl (.inl h1)⟩, k _ H1 _ st1 F1 S1 itok_own (fun b es z => by
          cases z
          exact e1) q⟩⟩
    · cases r with
      | scr h f => exact ⟨_, rfl, .inl ⟨⟨_, h⟩, k _ H1 _ st1 F1 S1 (itok_scr (.scr h f) S1.sr) (fun a ds z => nomatch z) q⟩⟩
    · exact q.elim
  · subst ex
    cases r1
    rcases q1 with ⟨⟨xs, hq⟩, q⟩ | ⟨⟨xs, hq⟩, q⟩
    · obtain ⟨its, rv, p, hz⟩ := I1.list hq
      refine wpAny_pyIter_list p.isList ⟨_, [s1.heap.objs.size], _, _, H1, rfl, I1.kept (t' := s1.toks) fun b o e => Heap.get?_push_of_some _ e, turn_list a _, ⟨_, Heap.get?_push_size _ rfl, rfl, rfl⟩, fun b hb => ?_, q⟩
      cases (show b = s1.heap.objs.size by simpa using hb)
      exact I1.fpOk (Nat.le_refl _) (I1.hok.fresh (Nat.le_refl _))
    · obtain ⟨its, rv, p, hz⟩ := I1.tuple hq
      refine wpAny_pyIter_tuple (show s1.heap.IsTuple a its.toArray from p) ⟨_, [s1.heap.objs.size], _, _, H1, rfl, I1.kept (t' := s1.toks) fun b o e => Heap.get?_push_of_some _ e, turn_tuple a _, ⟨_, Heap.get?_push_size _ rfl, rfl, rfl⟩, fun b hb => ?_, q⟩
      cases (show b = s1.heap.objs.size by simpa using hb)
      exact I1.fpOk (Nat.le_refl _) (I1.hok.fresh (Nat.le_refl _))
/-- range(n), range(a, b) -/
def dRng1 (t : TAd) : TId := fun e st R => t e st fun ds st1 => match ds with
  | [.d (.int j)] => -(2 ^ 62) ≤ j ∧ j < 2 ^ 62 ∧ R ⟨(List.range j.toNat).map fun (i : Nat) => .d (.int (0 + i)), none⟩ st1
  | _ => False
def dRng2 (t : TAd) : TId := fun e st R => t e st fun ds st1 => match ds with
  | [.d (.int i), .d (.int j)] => (-(2 ^ 62) ≤ i ∧ i < 2 ^ 62 ∧ -(2 ^ 62) ≤ j ∧ j < 2 ^ 62) ∧ R ⟨(List.range (j - i).toNat).map fun (m : Nat) => .d (.int (i + m)), none⟩ st1
  | _ => False
theorem pdi_rng1 {a : Expr} {t : TAd} {p pos : Pos} (hg : Gl X "range") (hm : X.mg "range" = none) (ha : PDA X [a] t) (hs : starEach [a] X.env = [(false, eval a X.env)] := by rfl) : PDI X tg (.Call (.Name "range" p) [a] [] pos) (dRng1 t) :=
  PI.imp (pi_range1 hg hm ha hs) fun σ H R ⟨e, st, hid, Rd, re, S, h, k⟩ => ⟨e, st, hid, _, re, S, h, fun vs H1 ds st1 F1 S1 r q => by
    split at q
    · obtain ⟨v, rfl, r1⟩ := DvsD.one r
      cases int_at r1
      exact ⟨_, rfl, q.1, q.2.1, k _ H1 _ st1 F1 S1 itok_rng (fun a ds z => nomatch z) q.2.2⟩
    · exact q.elim⟩
theorem pdi_rng2 {a b : Expr} {t : TAd} {p pos : Pos} (hg : Gl X "range") (hm : X.mg "range" = none) (ha : PDA X [a, b] t) (hs : starEach [a, b] X.env = [(false, eval a X.env), (false, eval b X.env)] := by rfl) (hs2 : starEach [b] X.env = [(false, eval b X.env)] := by rfl) : PDI X tg (.Call (.Name "range" p) [a, b] [] pos) (dRng2 t) :=
  PI.imp (pi_range2 hg hm ha hs hs2) fun σ H R ⟨e, st, hid, Rd, re, S, h, k⟩ => ⟨e, st, hid, _, re, S, h, fun vs H1 ds st1 F1 S1 r q => by
    split at q
    · obtain ⟨v, v', rfl, r1, r2⟩ := DvsD.two r
      cases int_at r1
      cases int_at r2
      exact ⟨_, _, rfl, q.1, k _ H1 _ st1 F1 S1 itok_rng (fun a ds z => nomatch z) q.2⟩
    · exact q.elim⟩
end
/-! ### list comprehensions, one name -/
section
variable {K : PySem.W.Frag} {st hid : Sto} {H : Hp} {p : Addr} {ds : List D}
theorem jn_swap (h : st p = none) : jn st (put hid p ds) = jn (put st p ds) hid := by
  funext b
  by_cases e : b = p
  · subst e
    rw [jn_none h, put_same, jn_some put_same]
  · unfold jn
    rw [put_ne e, put_ne e]
theorem Sx.hide (S : Sx K (put st p ds) hid H) (h : st p = none) : Sx K st (put hid p ds) H := by
  refine ⟨fun a n => ?_, by rw [jn_swap h]; exact S.sr⟩
  by_cases e : a = p
  · rw [e]
    exact h
  · rw [put_ne e] at n
    have := S.dj a n
    rw [put_ne e] at this
    exact this
theorem Sx.shown (S : Sx K st (put hid p ds) H) (h : hid p = none) : Sx K (put st p ds) hid H ∧ st p = none := by
  have hp : st p = none := S.dj p (by rw [put_same]; exact fun z => nomatch z)
  refine ⟨⟨fun a n => ?_, by rw [← jn_swap hp]; exact S.sr⟩, hp⟩
  by_cases e : a = p
  · rw [e] at n
    exact absurd h n
  · rw [put_ne e]
    exact S.dj a (by rw [put_ne e]; exact n)
end
def dYes : TTd := fun _ st Q => Q true st
abbrev PDTs (X : Cx) (ifs : List Expr) (t : TTd) : Prop := PTs X ifs (upT X.K t)
theorem PTs.imp {X : Cx} {e : List Expr} {t t' : TT} (h : PTs X e t) (i : ∀ σ H Q, t' σ H Q → t σ H Q) : PTs X e t' := ⟨fun pins s σ H Q I w => h.run pins s σ H Q I (i σ H Q w)⟩
theorem pdts_nil {X : Cx} : PDTs X [] dYes := PTs.imp pts_nil fun σ H Q ⟨e, st, hid, Qd, re, S, h, k⟩ => k true H st (Fr.refl _ _) S h
theorem pdts_one {X : Cx} {c : Expr} {t : TTd} (h : PDT X c t) : PDTs X [c] t := pts_one h
def mkV (ds : List D) (st : Sto) (Q : Kd) : Prop := ∃ xs, pures ds = some xs ∧ Q (.d (.list xs)) st
def dLcM (M : List D → Sto → Kd → Prop) (ti : TId) (i : Nat) (tt : TTd) (te : TEd) : TEd := fun e st Q => ti e st fun it st1 => ∃ W : Nat → List D → Sto → Prop, W 0 [] st1 ∧ ∀ j acc st2, W j acc st2 → it.at st2 ∧ (it.xs.length ≤ j → M acc st2 Q) ∧
  ∀ d, it.xs[j]? = some d → tt (e.set i (some d)) st2 fun b st3 => if b = true then te (e.set i (some d)) st3 fun y st4 => acc.length < sizeLine ∧ W (j + 1) (acc ++ [y]) st4 else W (j + 1) acc st3
abbrev dLc := dLcM mkL
abbrev dLcV := dLcM mkV
theorem set_none_set {α : Type} {σ : List (Option α)} {i : Nat} {x : Option α} : (σ.set i none).set i x = σ.set i x := List.set_set ..
theorem pd_lcM {X : Cx} {M : List D → Sto → Kd → Prop} (hM : ∀ ds st Q, M ds st Q → mkL ds st Q) {elt iter : Expr} {ifs : List Expr} {scope : Scope} {y : Str} {i : Nat} {py pos : Pos} {ti : TId} {tt : TTd} {te : TEd} (hc : X.calm = true) (hN : X.N.Nodup) (hi : PDI X (.Name y py) iter ti) (ok : BlkOk X.N X.env.scope scope [(y, i)])
    (hg : ∀ (s : Shared) (H : Hp) (C : Addr) (cl : List (Str × Addr)) (fp : List Addr), PG (X.blk s H scope (compEnvC scope cl C X.env) fp) (.Name y py) (gName i))
    (ht : ∀ (s : Shared) (H : Hp) (C : Addr) (cl : List (Str × Addr)) (fp : List Addr), PDTs (X.blk s H scope (compEnvC scope cl C X.env) fp) ifs tt)
    (he : ∀ (s : Shared) (H : Hp) (C : Addr) (cl : List (Str × Addr)) (fp : List Addr), PD (X.blk s H scope (compEnvC scope cl C X.env) fp) elt te) (hs : ∀ x, foldedSetIterable iter X.env x = pure x := by intro _; rfl) :
    PD X (.ListComp elt [⟨.Name y py, iter, ifs, 0⟩] scope pos) (dLcM M ti i tt te) :=
  PE.imp (pe_lc (own := [(y, i)]) (wi := upI X.K ti) (g := gName i) (tt := upT X.K tt) (te := up X.K te) hc hN hi ok hg ht he hs) fun σ H Q ⟨e, st, hid, Qd, re, S, h, k⟩ => by
    refine ⟨e, st, hid, _, re, S, h, fun J H1 it st1 F1 S1 ok1 at1 ⟨W, w0, turn⟩ p hp => ?_⟩
    have n1 := jn_free (S1.sr.free0 hp)
    refine ⟨fun j m H2 => m = it.xs.length - j ∧ ∃ acc st2, W j acc st2 ∧ Sx X.K (put st2 p acc) hid H2 ∧ st2 p = none ∧ Fr (jn (put st1 p []) hid) (upd H1 p (.lst [])) (jn (put st2 p acc) hid) H2, ⟨it.xs.length, by simp, [], st1, w0, S1.own hp .nil, n1.1, Fr.refl _ _⟩, ?_⟩
    rintro j m H2 ⟨rfl, acc, st2, w2, S2, n2, F2⟩
    obtain ⟨at2, done, go⟩ := turn j acc st2 w2
    have Sh := S2.hide n2
    have eqF : jn st2 (put hid p acc) = jn (put st2 p acc) hid := jn_swap n2
    -- from the state ahead of the new list
    have F12 : Fr (jn st1 hid) H1 (jn (put st2 p acc) hid) H2 := Fr.trans (fx_own hp) F2
    have F02 : Fr (jn st hid) H (jn (put st2 p acc) hid) H2 := Fr.trans F1 F12
    have atF : it.at (jn (put st2 p acc) hid) := fun a ds z => by
      have e1 := at2 a ds z
      have ne : a ≠ p := fun z' => by
        rw [z', n2] at e1
        cases e1
      exact jn_some (by rw [put_ne ne]; exact e1)
    have It := ok1 j _ H2 F12 S2.sr atF
    by_cases hj : it.xs.length ≤ j
    · refine .inl ⟨It.2 hj, ?_⟩
      obtain ⟨vs, hv, rv⟩ := S2.at_ put_same
      rcases hM _ _ _ (done hj) with ⟨xs, ep, q⟩ | q
      · have ea := pures_eq ep
        subst ea
        obtain ⟨Sc, Fc, fc⟩ := S2.frz put_same
        have ec : cut (put st2 p (xs.map D.d)) p = st2 := by
          funext b
          by_cases eb : b = p
          · rw [eb, cut_same, n2]
          · rw [cut_ne eb, put_ne eb]
        rw [ec] at Sc Fc fc
        exact k _ H2 _ st2 (Fr.trans F02 Fc) Sc (.d (.lst hv fc ((Dvs.of rv).mono Fc S2.sr))) q
      · exact k _ H2 _ _ F02 S2 (.own p) (q p n2)
    · have hlt : j < it.xs.length := Nat.lt_of_not_le hj
      have ed : it.xs[j]? = some it.xs[j] := List.getElem?_eq_getElem hlt
      obtain ⟨g1, g2⟩ := It.1 _ ed
      refine .inr ⟨g1, fun H' => ∃ acc' st', W (j + 1) acc' st' ∧ Sx X.K (put st' p acc') hid H' ∧ st' p = none ∧ Fr (jn (put st1 p []) hid) (upd H1 p (.lst [])) (jn (put st' p acc') hid) H', fun H' ⟨acc', st', h1, h2, h3, h4⟩ => ⟨it.xs.length - (j + 1), by omega, rfl, acc', st', h1, h2, h3, h4⟩, fun x H3 hy => ?_⟩
      obtain ⟨F23, S3r, rx⟩ := g2 x H3 hy
      have S3 : Sx X.K (put st2 p acc) hid H3 := ⟨S2.dj, S3r⟩
      have S3h := S3.hide n2
      have F03 := Fr.trans F02 F23
      have reX : RE X.K (jn st2 (put hid p acc)) H3 (((wipe σ [i]).set i (some x))) (e.set i (some it.xs[j])) := by
        rw [eqF]
        show RE X.K _ H3 ((σ.set i none).set i (some x)) _
        rw [set_none_set]
        exact (re.mono F03 S.sr).set rx
      show wipe ((wipe σ [i]).set i (some x)) [i] = wipe σ [i] ∧ upT X.K tt ((wipe σ [i]).set i (some x)) H3 _
      refine ⟨by
        show (((σ.set i none).set i (some x)).set i none) = σ.set i none
        rw [List.set_set, List.set_set], ?_⟩
      refine ⟨_, st2, put hid p acc, _, reX, S3h, go _ ed, fun b H4 st4 F4 S4 q4 => ?_⟩
      have hn : hid p = none := n1.2
      have F3X : Fr (jn (put st1 p []) hid) (upd H1 p (.lst [])) (jn st2 (put hid p acc)) H3 := by
        rw [eqF]
        exact Fr.trans F2 F23
      cases b with
      | false =>
        rw [if_neg Bool.false_ne_true] at q4
        refine iteF ?_
        obtain ⟨S4', n4⟩ := S4.shown hn
        refine ⟨acc, st4, q4, S4', n4, ?_⟩
        rw [← jn_swap n4]
        exact Fr.trans F3X F4
      | true =>
        rw [if_pos rfl] at q4
        refine iteT ?_
        refine ⟨_, st4, put hid p acc, _, reX.mono F4 S3h.sr, S4, q4, fun v H5 d st5 F5 S5 r5 ⟨hz, w5⟩ => ?_⟩
        obtain ⟨S5', n5⟩ := S5.shown hn
        obtain ⟨vs, hv, rv⟩ := S5'.at_ put_same
        rw [jn_swap n5] at r5
        refine ⟨vs, hv, by rw [Paired.length rv]; exact hz, acc ++ [d], st5, w5, ?_, n5, ?_⟩
        · have := S5'.store (es := acc ++ [d]) put_same (DvsD.snoc rv r5)
          have ee : put (put st5 p acc) p (acc ++ [d]) = put st5 p (acc ++ [d]) := by
            funext b
            by_cases eb : b = p
            · rw [eb, put_same, put_same]
            · rw [put_ne eb, put_ne eb, put_ne eb]
          rw [ee] at this
          exact this
        · have Fa : Fr (jn (put st1 p []) hid) (upd H1 p (.lst [])) (jn (put st5 p acc) hid) H5 := by
            rw [← jn_swap n5]
            exact Fr.trans F3X (Fr.trans F4 F5)
          intro b o hb hf
          have ne : b ≠ p := fun z => by
            rw [z, jn_some put_same] at hf
            cases hf
          obtain ⟨z1, z2⟩ := Fa b o hb hf
          refine ⟨by rw [upd_ne ne]; exact z1, ?_⟩
          unfold jn at z2 ⊢
          rw [put_ne ne] at z2 ⊢
          exact z2
theorem hm_own : ∀ ds st Q, mkL ds st Q → mkL ds st Q := fun _ _ _ h => h
theorem hm_val : ∀ ds st Q, mkV ds st Q → mkL ds st Q := fun _ _ _ h => .inl h
end DL
namespace DL
open PySem PySem.Spec PyProof.Rows L2
/-! ### targets -/
abbrev TGd := D → Ed → Sto → (Ed → Sto → Prop) → Prop
abbrev TGsd := List D → Ed → Sto → (Ed → Sto → Prop) → Prop
def upG (K : PySem.W.Frag) (t : TGd) : TG := fun v σ H Q => ∃ d e st hid Qd, DvD K (jn st hid) H v d ∧ RE K (jn st hid) H σ e ∧ Sx K st hid H ∧ t d e st Qd ∧ GoS K st hid H Qd Q
def upGs (K : PySem.W.Frag) (t : TGsd) : TGs := fun vs σ H Q => ∃ ds e st hid Qd, DvsD K (jn st hid) H vs ds ∧ RE K (jn st hid) H σ e ∧ Sx K st hid H ∧ t ds e st Qd ∧ GoS K st hid H Qd Q
abbrev PDG (X : Cx) (tg : Expr) (t : TGd) : Prop := PG X tg (upG X.K t)
abbrev PDGs (X : Cx) (tg : List Expr) (t : TGsd) : Prop := PGs X tg (upGs X.K t)
theorem PG.imp {X : Cx} {tg : Expr} {t t' : TG} (h : PG X tg t) (i : ∀ v σ H Q, t' v σ H Q → t v σ H Q) : PG X tg t' := ⟨fun pins s σ H v u Q I r w => h.run pins s σ H v u Q I r (i v σ H Q w)⟩
theorem PGs.imp {X : Cx} {tg : List Expr} {t t' : TGs} (h : PGs X tg t) (i : ∀ v σ H Q, t' v σ H Q → t v σ H Q) : PGs X tg t' := ⟨fun pins s σ H v u Q I r w => h.run pins s σ H v u Q I r (i v σ H Q w)⟩
theorem GoS.now {K : PySem.W.Frag} {st hid : Sto} {H : Hp} {Qd : Ed → Sto → Prop} {Q : L2.St → Hp → Prop} (g : GoS K st hid H Qd Q) {σ : L2.St} {e : Ed} (S : Sx K st hid H) (h : RE K (jn st hid) H σ e) (q : Qd e st) : Q σ H := g σ H e st (Fr.refl _ _) S h q
section
variable {X : Cx} {pos : Pos}
def hName (i : Nat) : TGd := fun d e st Q => Q (e.set i (some d)) st
theorem pdg_name {i : Nat} {x : Str} (hN : X.N.Nodup) (hi : X.N[i]? = some x) (hx : Loc X.env.scope x) (hf : X.fn x = true ∨ X.env.scope.names.lookup x = some .local := by first | exact .inl rfl | exact .inr rfl | assumption) : PDG X (.Name x pos) (hName i) :=
  PG.imp (pg_name hN hi hx hf) fun v σ H Q ⟨d, e, st, hid, Qd, r, re, S, q, k⟩ => GoS.now k S (re.set r) q
def hNil : TGsd := fun ds e st Q => ds = [] ∧ Q e st
def hCons (t : TGd) (u : TGsd) : TGsd := fun ds e st Q => match ds with
  | d :: r => t d e st fun e1 st1 => u r e1 st1 Q
  | [] => False
theorem pdgs_nil : PDGs X [] hNil := PGs.imp pgs_nil fun v σ H Q ⟨ds, e, st, hid, Qd, r, re, S, q, k⟩ => by
  obtain ⟨rfl, q⟩ := q
  cases r
  exact ⟨rfl, GoS.now k S re q⟩
theorem pdgs_cons {e : Expr} {es : List Expr} {t : TGd} {u : TGsd} (h1 : PDG X e t) (h2 : PDGs X es u)
    (hs : (assignEach (e :: es) X.env).map (·.2) = assign e X.env :: (assignEach es X.env).map (·.2) := by rfl) : PDGs X (e :: es) (hCons t u) :=
  PGs.imp (pgs_cons h1 h2 hs) fun v σ H Q ⟨ds, e, st, hid, Qd, r, re, S, q, k⟩ => by
    cases r with
    | nil => exact q.elim
    | cons h t =>
      exact ⟨_, _, rfl, _, e, st, hid, _, h, re, S, q, fun σ1 H1 e1 st1 F1 S1 re1 q1 => ⟨_, e1, st1, hid, Qd, DvsD.mono F1 S.sr t, re1, S1, q1, GoS.mono k F1⟩⟩
/-- (a, b, ..) = a tuple of that length -/
def hTup (n : Nat) (t : TGsd) : TGd := fun d e st Q => match d with
  | .d (.tuple xs) => xs.length = n ∧ t (xs.map D.d) e st Q
  | _ => False
theorem pdg_tup {es : List Expr} {k : Nat} {t : TGsd} {n : Nat} (hc : X.calm = true) (h : PDGs X es t)
    (hn : (assignEach es X.env).length = n := by rfl) (hst : (assignEach es X.env).findIdx? (·.1) = none := by rfl) : PDG X (.Tuple es k pos) (hTup n t) :=
  PG.imp (pg_tup hc h hn hst) fun v σ H Q ⟨d, e, st, hid, Qd, r, re, S, q, k⟩ => by
    unfold hTup at q
    split at q
    · obtain ⟨a, vs, rfl, h1, r1⟩ := tup_at r
      exact ⟨a, vs, rfl, h1, by rw [r1.length]; exact q.1, _, e, st, hid, Qd, Dvs.to r1, re, S, q.2, k⟩
    · exact q.elim
/-- xs[i] = v of a list that may change -/
def hSub (to ti : TEd) : TGd := fun d e st Q => to e st fun o st1 => ti e st1 fun i st2 => match o, i with
  | .own a, .d (.int i) => ∃ ds j, st2 a = some ds ∧ ixN ds.length i = some j ∧ Q e (put st2 a (ds.set j d))
  | _, _ => False
theorem pdg_sub {o i : Expr} {to ti : TEd} (ho : PD X o to) (hi : PD X i ti)
    (ha : ∀ v, assign (.Subscript o i pos) X.env v = (do
      let ov ← holding [v] (eval o X.env); let iv ← holding [v, ov] (eval i X.env)
      standAt pos; holding [v, ov, iv] (setItem ov iv v); release [v, ov, iv] []) := by intro _; rfl) : PDG X (.Subscript o i pos) (hSub to ti) :=
  PG.imp (pg_sub ho hi set_list ha) fun v σ H Q ⟨d, e, st, hid, Qd, r, re, S, h, k⟩ => ⟨e, st, hid, _, re, S, h, fun ov H1 od st1 F1 S1 r1 h1 => ⟨e, st1, hid, _, re.mono F1 S.sr, S1, h1, fun iv H2 id st2 F2 S2 r2 h2 => by
    split at h2
    · obtain ⟨ds, j, e1, e2, q⟩ := h2
      cases int_at r2
      cases r1 with
      | own _ =>
        obtain ⟨vs, hv, rv⟩ := S2.at_ e1
        have F := Fr.trans F1 F2
        refine ⟨_, vs, _, j, rfl, rfl, hv, by rw [Paired.length rv]; exact e2, ?_⟩
        have F3 : FrX st2 hid H2 (put st2 _ (ds.set j d)) (upd H2 _ (.lst (vs.set j v))) := fx_put e1
        exact k _ _ _ _ (Fr.trans F F3) (S2.store e1 (DvsD.set j rv (r.mono F S.sr))) (re.mono (Fr.trans F F3) S.sr) q
    · exact h2.elim⟩⟩
end
/-! ### statements -/
section
variable {X : Cx} {st : Stmt} {rest : List Stmt} {t u : TSd} {e : Expr} {te : TEd} {pos : Pos}
theorem PDS.go {X : Cx} {s : Stmt} {T : TS} {t : TSd} (h : PS X s T) (i : ∀ D σ H, upS X.K t D σ H → T D σ H) : PDS X s t := PS.imp h i
def dNext : TSd := fun E e st => E.nx e st
def dSeq (t u : TSd) : TSd := fun E e st => t { E with nx := u E } e st
theorem pss_dnil : PDSs X [] dNext := PSs.imp pss_nil fun D σ H ⟨e, st, hid, E, re, S, h, k1, k2, k3, k4⟩ => GoS.now k1 S re h
theorem seq_imp {K : PySem.W.Frag} {D : Ends} {σ : L2.St} {H : Hp} (w : upS K (dSeq t u) D σ H) : tSeq (upS K t) (upS K u) D σ H := by
  obtain ⟨e, st, hid, E, re, S, h, k1, k2, k3, k4⟩ := w
  exact ⟨e, st, hid, { E with nx := u E }, re, S, h, fun σ' H' e' st' F' S' re' q => ⟨e', st', hid, E, re', S', q, GoS.mono k1 F', Go.mono k2 F', GoS.mono k3 F', GoS.mono k4 F'⟩, k2, k3, k4⟩
theorem pss_dcons (h1 : PDS X st t) (h2 : PDSs X rest u) : PDSs X (st :: rest) (dSeq t u) := PSs.imp (pss_cons h1 h2) fun _ _ _ => seq_imp
theorem pss_done (h1 : PDS X st t) : PDSs X [st] t := pss_one h1
def dBreak : TSd := fun E e st => E.bk e st
def dCont : TSd := fun E e st => E.ct e st
theorem psd_break : PDS X (.Break pos) dBreak := PS.imp ps_break fun D σ H ⟨e, st, hid, E, re, S, h, k1, k2, k3, k4⟩ => GoS.now k3 S re h
theorem psd_cont : PDS X (.Continue pos) dCont := PS.imp ps_continue fun D σ H ⟨e, st, hid, E, re, S, h, k1, k2, k3, k4⟩ => GoS.now k4 S re h
theorem psd_pass : PDS X (.Pass pos) dNext := PS.imp ps_pass fun D σ H ⟨e, st, hid, E, re, S, h, k1, k2, k3, k4⟩ => GoS.now k1 S re h
def dNever : TSd := fun _ _ _ => False
theorem pss_dnever {sts : List Stmt} : PDSs X sts dNever := PSs.imp pss_never fun D σ H ⟨e, st, hid, E, re, S, h, _⟩ => h.elim
theorem psd_never : PDS X st dNever := PS.imp ps_never fun D σ H ⟨e, st, hid, E, re, S, h, _⟩ => h.elim
def dDrop (te : TEd) : TSd := fun E e st => te e st fun _ st1 => E.nx e st1
theorem psd_expr (he : PD X e te) (hs : swapsWith e none pos.line X.env = pure false := by rfl) : PDS X (.Expr e pos) (dDrop te) :=
  PS.imp (ps_expr he hs) fun D σ H ⟨e, st, hid, E, re, S, h, k1, k2, k3, k4⟩ => ⟨e, st, hid, _, re, S, h, fun v H1 d st1 F1 S1 r q => k1 σ H1 e st1 F1 S1 (re.mono F1 S.sr) q⟩
/-- a list that may change is given as a value -/
def frz (Q : Kd) : Kd := fun d st => Q d st ∨ ∃ a xs, d = .own a ∧ st a = some (xs.map D.d) ∧ Q (.d (.list xs)) (cut st a)
theorem frz_go {K : PySem.W.Frag} {st hid : Sto} {H : Hp} {Qd : Kd} {Q : VK} (k : Go K st hid H Qd Q) : Go K st hid H (frz Qd) Q := fun v H1 d st1 F1 S1 r q => by
  rcases q with q | ⟨a, xs, rfl, e1, q⟩
  · exact k v H1 d st1 F1 S1 r q
  · cases r with
    | own _ =>
      obtain ⟨vs, hv, rv⟩ := S1.at_ e1
      obtain ⟨Sc, Fc, fc⟩ := S1.frz e1
      exact k _ H1 _ _ (Fr.trans F1 Fc) Sc (.d (.lst hv fc ((Dvs.of rv).mono Fc S1.sr))) q
def dRet (te : TEd) : TSd := fun E e st => te e st (frz E.rt)
theorem psd_ret (he : PD X e te) : PDS X (.Return (some e) pos) (dRet te) :=
  PS.imp (ps_ret he) fun D σ H ⟨e, st, hid, E, re, S, h, k1, k2, k3, k4⟩ => ⟨e, st, hid, _, re, S, h, frz_go k2⟩
def dRetN : TSd := fun E _ st => E.rt (.d .none) st
theorem psd_retN : PDS X (.Return none pos) dRetN := PS.imp ps_retN fun D σ H ⟨e, st, hid, E, re, S, h, k1, k2, k3, k4⟩ => Go.now k2 S (.d .non) h
def dIfS (c : TTd) (t u : TSd) : TSd := fun E e st => c e st fun b st1 => if b = true then t E e st1 else u E e st1
theorem psd_if {c : Expr} {a b : List Stmt} {tc : TTd} (hc : PDT X c tc) (ha : PDSs X a t) (hb : PDSs X b u) : PDS X (.If c a b pos) (dIfS tc t u) :=
  PS.imp (ps_if hc ha hb) fun D σ H ⟨e, st, hid, E, re, S, h, k1, k2, k3, k4⟩ => ⟨e, st, hid, _, re, S, h, fun b H1 st1 F1 S1 q => by
    cases b with
    | true =>
      rw [if_pos rfl] at q
      exact iteT ⟨e, st1, hid, E, re.mono F1 S.sr, S1, q, GoS.mono k1 F1, Go.mono k2 F1, GoS.mono k3 F1, GoS.mono k4 F1⟩
    | false =>
      rw [if_neg Bool.false_ne_true] at q
      exact iteF ⟨e, st1, hid, E, re.mono F1 S.sr, S1, q, GoS.mono k1 F1, Go.mono k2 F1, GoS.mono k3 F1, GoS.mono k4 F1⟩⟩
def dAsg (te : TEd) (g : TGd) : TSd := fun E e st => te e st (frz fun d st1 => g d e st1 E.nx)
theorem asg_imp {K : PySem.W.Frag} {g : TGd} {D : Ends} {σ : L2.St} {H : Hp} (w : upS K (dAsg te g) D σ H) : tAsg (up K te) (upG K g) D σ H := by
  obtain ⟨e, st, hid, E, re, S, h, k1, k2, k3, k4⟩ := w
  exact ⟨e, st, hid, _, re, S, h, frz_go fun v H1 d st1 F1 S1 r q => ⟨d, e, st1, hid, _, r, re.mono F1 S.sr, S1, q, GoS.mono k1 F1⟩⟩
theorem psd_asg {tg : Expr} {g : TGd} (he : PD X e te) (hg : PDG X tg g) (hs : swapsWithSole [tg] e pos.line X.env = pure false := by rfl) (hw : swappedStores [tg] e X.env = pure none := by rfl)
    (h1 : (assignEach [tg] X.env).map (·.2) = [assign tg X.env] := by rfl) : PDS X (.Assign [tg] e pos) (dAsg te g) := PS.imp (ps_asg he hg hs hw h1) fun _ _ _ => asg_imp
theorem psd_set {i : Nat} {x : Str} {pos' : Pos} (hN : X.N.Nodup) (hi : X.N[i]? = some x) (hx : Loc X.env.scope x) (he : PD X e te) (hs : swapsWith e (some (.Name x pos')) pos.line X.env = pure false := by rfl) (hf : X.fn x = true ∨ X.env.scope.names.lookup x = some .local := by first | exact .inl rfl | exact .inr rfl | assumption) :
    PDS X (.Assign [.Name x pos'] e pos) (dAsg te (hName i)) := PS.imp (ps_set hN hi hx he hs hf) fun D σ H ⟨e, st, hid, E, re, S, h, k1, k2, k3, k4⟩ => ⟨e, st, hid, _, re, S, h, frz_go fun v H1 d st1 F1 S1 r q => k1 _ H1 _ st1 F1 S1 ((re.mono F1 S.sr).set r) q⟩
/-- a, b = x, y with plain local names -/
def dPar (i j : Nat) (ta : TAd) : TSd := fun E e st => ta e st fun ds st1 => match ds with
  | [d1, d2] => E.nx ((e.set i (some d1)).set j (some d2)) st1
  | _ => False
theorem psd_par {i j : Nat} {x y : Str} {a b : Expr} {ta : TAd} {px py pt : Pos} {kt k2 pt2} (hc : X.calm = true) (hN : X.N.Nodup) (hi : X.N[i]? = some x) (hj : X.N[j]? = some y) (hij : i ≠ j)
    (hx : X.env.scope.names.lookup x = some .local) (hy : X.env.scope.names.lookup y = some .local) (ha : PDA X [a, b] ta)
    (hw : swappedStores [.Tuple [.Name x px, .Name y py] kt pt] (.Tuple [a, b] k2 pt2) X.env = pure (some [x, y]))
    (hs : swapsWithSole [.Tuple [.Name x px, .Name y py] kt pt] (.Tuple [a, b] k2 pt2) pos.line X.env = pure false := by rfl) :
    PDS X (.Assign [.Tuple [.Name x px, .Name y py] kt pt] (.Tuple [a, b] k2 pt2) pos) (dPar i j ta) :=
  PS.imp (ps_par hc hN hi hj hij hx hy ha hw hs) fun D σ H ⟨e, st, hid, E, re, S, h, k1, k2, k3, k4⟩ => ⟨e, st, hid, _, re, S, h, fun vs H1 ds st1 F1 S1 r q => by
    split at q
    · obtain ⟨v, v', rfl, r1, r2⟩ := DvsD.two r
      exact ⟨v, v', rfl, k1 _ H1 _ st1 F1 S1 (((re.mono F1 S.sr).set r1).set r2) q⟩
    · exact q.elim⟩
def dPar3 (i j l : Nat) (ta : TAd) : TSd := fun E e st => ta e st fun ds st1 => match ds with
  | [d1, d2, d3] => E.nx (((e.set i (some d1)).set j (some d2)).set l (some d3)) st1
  | _ => False
theorem psd_par3 {i j l : Nat} {x y z : Str} {a b c : Expr} {ta : TAd} {px py pz pt : Pos} {kt k2 pt2} (hc : X.calm = true) (hN : X.N.Nodup) (hi : X.N[i]? = some x) (hj : X.N[j]? = some y) (hl : X.N[l]? = some z) (hij : i ≠ j) (hil : i ≠ l) (hjl : j ≠ l)
    (hx : X.env.scope.names.lookup x = some .local) (hy : X.env.scope.names.lookup y = some .local) (hz : X.env.scope.names.lookup z = some .local) (ha : PDA X [a, b, c] ta)
    (hw : swappedStores [.Tuple [.Name x px, .Name y py, .Name z pz] kt pt] (.Tuple [a, b, c] k2 pt2) X.env = pure (some [x, y, z]))
    (hs : swapsWithSole [.Tuple [.Name x px, .Name y py, .Name z pz] kt pt] (.Tuple [a, b, c] k2 pt2) pos.line X.env = pure false := by rfl) :
    PDS X (.Assign [.Tuple [.Name x px, .Name y py, .Name z pz] kt pt] (.Tuple [a, b, c] k2 pt2) pos) (dPar3 i j l ta) :=
  PS.imp (ps_par3 hc hN hi hj hl hij hil hjl hx hy hz ha hw hs) fun D σ H ⟨e, st, hid, E, re, S, h, k1, k2, k3, k4⟩ => ⟨e, st, hid, _, re, S, h, fun vs H1 ds st1 F1 S1 r q => by
    split at q
    · cases r with
      | cons r1 t =>
        obtain ⟨v, v', rfl, r2, r3⟩ := DvsD.two t
        exact ⟨_, v, v', rfl, k1 _ H1 _ st1 F1 S1 ((((re.mono F1 S.sr).set r1).set r2).set r3) q⟩
    · exact q.elim⟩
/-- xs.append(e) -/
def dApp (to te : TEd) : TEd := fun e st Q => to e st fun o st1 => match o with
  | .own a => (st1 a).isSome = true ∧ te e st1 fun d st2 => ∃ ds, st2 a = some ds ∧ ds.length < sizeLine ∧ Q (.d .none) (put st2 a (ds ++ [d]))
  | _ => False
theorem pd_append {o : Expr} {to : TEd} {apos cpos : Pos} (ho : PD X o to) (ha : PD X e te)
    (hbase : attributeBase o "append" X.env (eval o X.env) = eval o X.env := by rfl) (hline : (apos.endLine == cpos.line) = true := by rfl)
    (hs0 : starEach [e] X.env = (false, eval e X.env) :: starEach [] X.env := by rfl)
    (hfew : ((backTo cpos (starEach [e] X.env)).all (fun x => !x.1) && (backToKw cpos (keywordEach [] X.env)).all (fun x => x.1.isSome) && decide ([e].length + ([] : List Keyword).length + (if ([] : List Keyword).isEmpty then 0 else 1) < 30)) = true := by rfl)
    (hplain : (backTo cpos (starEach [] X.env)).any (·.1) = false := by rfl) : PD X (.Call (.Attribute o "append" apos) [e] [] cpos) (dApp to te) := by
  refine PE.imp (pe_bm PySem.F.plainAttrs_list PySem.F.slot_list_append PySem.F.type_list_append mt_append ho (pa_cons ha pa_nil hs0) hbase hfew hline hs0 hplain) fun σ H Q ⟨e, st, hid, Qd, re, S, h, k⟩ => ⟨e, st, hid, _, re, S, h, fun v H1 d st1 F1 S1 r q => ?_⟩
  cases r with
  | d h => exact q.elim
  | scr h f => exact q.elim
  | own a =>
    obtain ⟨h0, q⟩ := q
    obtain ⟨ds, e1⟩ := Option.isSome_iff_exists.mp h0
    obtain ⟨vs, hv, rv⟩ := S1.at_ e1
    refine ⟨.inl ⟨rfl, vs, .inl (.inl hv)⟩, e, st1, hid, _, re.mono F1 S.sr, S1, q, fun y H2 dy st2 F2 S2 ry ⟨es, e2, hz, q2⟩ => ?_⟩
    obtain ⟨ws, hw, rw'⟩ := S2.at_ e2
    have F3 : FrX st2 hid H2 (put st2 a (es ++ [dy])) (upd H2 a (.lst (ws ++ [y]))) := fx_put e2
    exact ⟨a, ws, y, rfl, rfl, hw, by rw [Paired.length rw']; exact hz, k _ _ _ _ (Fr.trans F1 (Fr.trans F2 F3)) (S2.store e2 (DvsD.snoc rw' ry)) (.d .non) q2⟩
/-- while: the word and its measure -/
def dWhile (c : TTd) (tb : TSd) : TSd := fun E e st => ∃ W : Nat → Ed → Sto → Prop, (∃ m, W m e st) ∧ ∀ m e st, W m e st → c e st fun b st1 => if b = true then tb { E with nx := fun e' st' => ∃ m', m' < m ∧ W m' e' st', ct := fun e' st' => ∃ m', m' < m ∧ W m' e' st', bk := E.nx } e st1 else E.nx e st1
theorem psd_while {c : Expr} {body : List Stmt} {tc : TTd} {tb : TSd} (hp : PassesOwn (model X.prog X.w) X.A X.env X.xe) (hc : PDT X c tc) (hb : PDSs X body tb) : PDS X (.While c body [] pos) (dWhile tc tb) :=
  PS.imp (ps_while hp hc hb) fun D σ H ⟨e, st, hid, E, re, S, ⟨W, ⟨m0, w0⟩, turn⟩, k1, k2, k3, k4⟩ => by
    refine ⟨fun m σ' H' => ∃ e' st', W m e' st' ∧ FrX st hid H st' H' ∧ Sx X.K st' hid H' ∧ RE X.K (jn st' hid) H' σ' e', ⟨m0, e, st, w0, Fr.refl _ _, S, re⟩, fun m σ1 H1 ⟨e1, st1, w1, F1, S1, re1⟩ => ?_⟩
    refine ⟨e1, st1, hid, _, re1, S1, turn m e1 st1 w1, fun b H2 st2 F2 S2 q => ?_⟩
    have F := Fr.trans F1 F2
    cases b with
    | false =>
      rw [if_neg Bool.false_ne_true] at q
      exact iteF (k1 _ H2 _ st2 F S2 (re1.mono F2 S1.sr) q)
    | true =>
      rw [if_pos rfl] at q
      refine iteT ⟨fun σ' H' => ∃ m', m' < m ∧ ∃ e' st', W m' e' st' ∧ FrX st hid H st' H' ∧ Sx X.K st' hid H' ∧ RE X.K (jn st' hid) H' σ' e', fun σ' H' ⟨m', h1, h2⟩ => ⟨m', h1, h2⟩, e1, st2, hid, _, re1.mono F2 S1.sr, S2, q, ?_, Go.mono k2 F, GoS.mono k1 F, ?_⟩
      · exact fun σ3 H3 e3 st3 F3 S3 re3 ⟨m', h1, h2⟩ => ⟨m', h1, e3, st3, h2, Fr.trans F F3, S3, re3⟩
      · exact fun σ3 H3 e3 st3 F3 S3 re3 ⟨m', h1, h2⟩ => ⟨m', h1, e3, st3, h2, Fr.trans F F3, S3, re3⟩
/-- for: the word by the turn -/
def dFor (ti : TId) (g : TGd) (tb : TSd) : TSd := fun E e st => ti e st fun it st1 => ∃ W : Nat → Ed → Sto → Prop, W 0 e st1 ∧ ∀ i e st, W i e st → it.at st ∧ (it.xs.length ≤ i → E.nx e st) ∧
  ∀ d, it.xs[i]? = some d → g d e st fun e2 st2 => tb { E with nx := W (i + 1), ct := W (i + 1), bk := E.nx } e2 st2
theorem psd_for {tg iter : Expr} {body : List Stmt} {ti : TId} {g : TGd} {tb : TSd} (hp : PassesOwn (model X.prog X.w) X.A X.env X.xe) (hc : X.calm = true) (hi : PDI X tg iter ti) (hg : PDG X tg g) (hb : PDSs X body tb)
    (hs : ∀ x, foldedSetIterable iter X.env x = pure x := by intro _; rfl) : PDS X (.For tg iter body [] pos) (dFor ti g tb) :=
  PS.imp (ps_for hp hc hi hg hb hs) fun D σ H ⟨e, st, hid, E, re, S, h, k1, k2, k3, k4⟩ => by
    refine ⟨e, st, hid, _, re, S, h, fun J H1 it st1 F1 S1 ok1 at1 ⟨W, w0, turn⟩ => ?_⟩
    refine ⟨fun i m σ' H' => m = it.xs.length - i ∧ ∃ e' st', W i e' st' ∧ FrX st1 hid H1 st' H' ∧ Sx X.K st' hid H' ∧ RE X.K (jn st' hid) H' σ' e', ⟨it.xs.length, by simp, e, st1, w0, Fr.refl _ _, S1, re.mono F1 S.sr⟩, ?_⟩
    rintro i m σ2 H2 ⟨rfl, e2, st2, w2, F2, S2, re2⟩
    obtain ⟨at2, done, go⟩ := turn i e2 st2 w2
    have It := ok1 i _ H2 F2 S2.sr fun a ds z => jn_some (at2 a ds z)
    by_cases hj : it.xs.length ≤ i
    · exact .inl ⟨It.2 hj, k1 _ H2 _ st2 (Fr.trans F1 F2) S2 re2 (done hj)⟩
    · have hlt : i < it.xs.length := Nat.lt_of_not_le hj
      have ed : it.xs[i]? = some it.xs[i] := List.getElem?_eq_getElem hlt
      obtain ⟨g1, g2⟩ := It.1 _ ed
      refine .inr ⟨g1, fun σ' H' => ∃ e' st', W (i + 1) e' st' ∧ FrX st1 hid H1 st' H' ∧ Sx X.K st' hid H' ∧ RE X.K (jn st' hid) H' σ' e', fun σ' H' q => ⟨it.xs.length - (i + 1), by omega, rfl, q⟩, fun x H3 hy => ?_⟩
      obtain ⟨F3, S3r, rx⟩ := g2 x H3 hy
      have S3 : Sx X.K st2 hid H3 := ⟨S2.dj, S3r⟩
      refine ⟨_, e2, st2, hid, _, rx, re2.mono F3 S2.sr, S3, go _ ed, fun σ4 H4 e4 st4 F4 S4 re4 q4 => ?_⟩
      have F14 : FrX st1 hid H1 st4 H4 := Fr.trans F2 (Fr.trans F3 F4)
      have F04 := Fr.trans F1 F14
      refine ⟨e4, st4, hid, _, re4, S4, q4, ?_, Go.mono k2 F04, GoS.mono k1 F04, ?_⟩
      · exact fun σ' H' e' st' F' S' re' w => ⟨e', st', w, Fr.trans F14 F', S', re'⟩
      · exact fun σ' H' e' st' F' S' re' w => ⟨e', st', w, Fr.trans F14 F', S', re'⟩
end
end DL
namespace DL
open PySem PySem.Spec PyProof.Rows L2
/-! ### defs: as FnOk, called where no repr is under way -/
structure FnG (P : Program) (w : World) (K : PySem.W.Frag) (mg : Str → Option Value) (base : Heap) (k : Nat) (f : Addr) (fd : FuncData) (ps : List Str) (sp : Sp) : Prop where
  len : ∀ vs H Q E, sp vs H Q E → vs.length = ps.length
  run : ∀ (A : Around) (outer : List Env) (s : Shared) (H : Hp) (args : Args) (us : List Value) (vs : List V) (Q : VK) (E : XK), A.guards = some [] → Room k A → Env0 P w K mg base A outer s H → BindsTo s fd args (ps.zip us) → Vals vs us → sp vs H Q E →
    codeAny (model P w) A (.call (.ref f) args) (CR CX0 outer P w H s Q E) s
theorem FnG.mono {P : Program} {w : World} {K : PySem.W.Frag} {mg : Str → Option Value} {base : Heap} {j k : Nat} {f : Addr} {fd : FuncData} {ps : List Str} {sp : Sp} (F : FnG P w K mg base j f fd ps sp) (h : j ≤ k) : FnG P w K mg base k f fd ps sp :=
  ⟨F.len, fun A outer s H args us vs Q E hg hr => F.run A outer s H args us vs Q E hg (hr.mono h)⟩
abbrev SpD := List D → Sto → Kd → Prop
def upSp (K : PySem.W.Frag) (sp : SpD) : Sp := fun vs H Q _ => ∃ ds st hid Qd, DvsD K (jn st hid) H vs ds ∧ Sx K st hid H ∧ sp ds st Qd ∧ Go K st hid H Qd Q
abbrev FnD (P : Program) (w : World) (K : PySem.W.Frag) (mg : Str → Option Value) (base : Heap) (k : Nat) (f : Addr) (fd : FuncData) (ps : List Str) (sp : SpD) : Prop := FnG P w K mg base k f fd ps (upSp K sp)
theorem FnD.imp {P : Program} {w : World} {K : PySem.W.Frag} {mg : Str → Option Value} {base : Heap} {k : Nat} {f : Addr} {fd : FuncData} {ps : List Str} {sp sp' : SpD} (F : FnD P w K mg base k f fd ps sp) (i : ∀ ds st Q, sp' ds st Q → sp ds st Q) : FnD P w K mg base k f fd ps sp' :=
  ⟨fun vs H Q E ⟨ds, st, hid, Qd, r, S, h, g⟩ => F.len vs H Q E ⟨ds, st, hid, Qd, r, S, i _ _ _ h, g⟩, fun A outer s H args us vs Q E hg hr he hb hv ⟨ds, st, hid, Qd, r, S, h, g⟩ => F.run A outer s H args us vs Q E hg hr he hb hv ⟨ds, st, hid, Qd, r, S, i _ _ _ h, g⟩⟩
section
variable {P : Program} {w : World} {K : PySem.W.Frag} {mg : Str → Option Value} {base : Heap}
/-- the context in which a def's body runs -/
abbrev cxD (P : Program) (w : World) (K : PySem.W.Frag) (mg : Str → Option Value) (base : Heap) (N : List Str) (qual : Str) (sc : Scope) (f : Addr) (cd : Value) (A : Around) (outer : List Env) (s : Shared) (H : Hp) (E : XK) : Cx := (cxOf CX0 P w K mg base N qual sc f cd A outer s H E).nox
def startD (N : List Str) (ds : List D) : Ed := ds.map some ++ List.replicate (N.length - ds.length) none
theorem re_start {st : Sto} {H : Hp} {N : List Str} {vs : List V} {ds : List D} (r : DvsD K st H vs ds) : RE K st H (L2.start N vs) (startD N ds) := by
  have hl := Paired.length r
  refine ⟨by unfold L2.start startD; simp [hl], fun i d h => ?_⟩
  unfold startD at h
  by_cases hi : i < ds.length
  · rw [List.getElem?_append_left (by simpa using hi), List.getElem?_map] at h
    cases q : ds[i]? with
    | none =>
      rw [q] at h
      cases h
    | some d' =>
      rw [q] at h
      cases Option.some.inj (Option.some.inj h)
      obtain ⟨v, h1, h2⟩ := r.get q
      refine ⟨v, ?_, h2⟩
      unfold L2.start
      rw [List.getElem?_append_left (by simpa [hl] using hi), List.getElem?_map, h1]
      rfl
  · rw [List.getElem?_append_right (by simpa using hi), List.getElem?_replicate] at h
    split at h <;> cases h
theorem fnD_ok {x qual : Str} {st : Stmt} {f : Addr} {fd : FuncData} {N ps : List Str} {k : Nat} {sp : SpD} {t : TSd} (F : Fun K x qual st f fd) (S : FnScope N ps (defScope st)) (len : ∀ ds s Q, sp ds s Q → ds.length = ps.length)
    (hbody : ∀ (cd : Value) (A : Around) (outer : List Env) (s : Shared) (H : Hp) (E : XK), A.guards = some [] → Room k (A.deeper (envOfC qual (defScope st) s.heap.objs.size f cd)) → PDSs (cxD P w K mg base N qual (defScope st) f cd A outer s H E) (defBody st) t)
    (hsp : ∀ ds s Q, sp ds s Q → t { nx := fun _ s' => Q (.d .none) s', rt := Q } (startD N ds) s) : FnD P w K mg base (k + 1) f fd ps sp := by
  obtain ⟨oc, od, kV, doc, pm, an, cd, ct, osl, rfl, lk, hcd⟩ := F.ex
  have lenV : ∀ vs H Q E, upSp K sp vs H Q E → vs.length = ps.length := fun vs H Q E ⟨ds, s, hid, Qd, r, _, h, _⟩ => (Paired.length r).trans (len ds s Qd h)
  refine ⟨lenV, fun A outer s H args us vs Q E hg hr e0 hb r hq => ?_⟩
  have KX : K.In s.heap := e0.mod.kin.keeps fun b o e => (e0.bs b o e).1
  have lim : s.heap.NoLimit := e0.mod.nolimit.keeps fun b o e => (e0.bs b o e).1
  have hkind : ∀ y ∈ ps.zip us, (defScope st).names.lookup y.1 = some .local ∨ ((defScope st).names.lookup y.1 = some .cell ∧ ((cellsFrom (s.heap.objs.size + 1) (defScope st).names []).lookup y.1).isSome = true) := fun y hy =>
    (S.par y.1 (List.of_mem_zip (show (y.1, y.2) ∈ ps.zip us from hy)).1).elim .inl fun q => .inr ⟨q, PySem.W.cellsFrom_some _ _ _ (.inl q)⟩
  refine codeAny_call_function hr.depth (KX _ _ lk) rfl S.co S.gen rfl (PySem.W.codeRec_of KX hcd) (hb _ _ _ _ (wpAny_newFunctionEnv_cells S.kind hkind fun env he s1 x1 => ?_))
  subst he
  refine ⟨lim.keeps x1.toInCall.keep, codeAny_func ?_⟩
  have ht := (hbody cd A outer s H E hg (hr.deeper _)).nox
  have I := inv_start (CX := CX0) (K := K) (mg := mg) (base := base) (E := E) S hr.hd e0 (lenV _ _ _ _ hq) r x1
  obtain ⟨ds, sd, hid, Qd, rd, Sd, hd, gd⟩ := hq
  have rdy : upS K t { nx := fun _ H' => Q .non H', rt := Q } (L2.start N vs) H := by
    refine ⟨startD N ds, sd, hid, { nx := fun _ s' => Qd (.d .none) s', rt := Qd }, re_start rd, Sd, hsp ds sd Qd hd, ?_, gd, ?_, ?_⟩
    · exact fun _ H' _ st' F' S' _ q => gd .non H' _ st' F' S' (.d .non) q
    · exact fun _ _ _ _ _ _ _ q => q.elim
    · exact fun _ _ _ _ _ _ _ q => q.elim
  refine wpAny_mono (ht.run [] s1 (L2.start N vs) H _ I rdy) (fun fl s' hs => ?_) fun e s' hs => hs
  cases fl with
  | ret u =>
    obtain ⟨v, σ', H', J, rv, q⟩ := hs
    exact ⟨v, H', J.os, J.bare, J.base, J.hok, rv, q⟩
  | next =>
    obtain ⟨σ', H', J, q⟩ := hs
    exact ⟨.non, H', J.os, J.bare, J.base, J.hok, rfl, q⟩
  | brk =>
    obtain ⟨_, _, _, q⟩ := hs
    exact False.elim q
  | cont =>
    obtain ⟨_, _, _, q⟩ := hs
    exact False.elim q
end
/-! ### calls of defs -/
section
variable {X : Cx} {k : Nat} {f : Addr} {fd : FuncData} {ps ks : List Str} {sp : SpD} {dds : List D} {ds : List Value} {x : Str} {p pos : Pos} {e : Expr} {es : List Expr} {kws : List Keyword} {t tk : TAd}
theorem run_fg {pins : List (Addr × Obj)} {σ : L2.St} {H : Hp} {s : Shared} {Q : VK} {us ws : List Value} {kw : List (Str × Value)} {vs : List V} {S : Sp} (F : FnG X.prog X.w X.K X.mg X.base k f fd ps S) (hG : X.A.guards = some []) (hr : Room k X.A)
    (I : Inv X pins σ H s) (hb : us.length = ps.length → BindsTo s fd ⟨ws, kw⟩ (ps.zip us)) (r : Vals vs us) (h : S vs H Q E0) : wpAny (model X.prog X.w) X.A (call (.ref f) ws kw) (EP X pins σ Q) X.xe s := by
  have hl : us.length = ps.length := by
    rw [← r.length]
    exact F.len _ _ _ _ h
  refine wpAny_call (codeAny_mono (F.run X.A X.stack s H ⟨ws, kw⟩ us vs Q E0 hG hr I.env0 (hb hl) r h) fun r s' hq => ?_)
  cases r with
  | error e => exact False.elim hq
  | ok fl =>
    cases fl with
    | ret u => exact I.after hq
    | next => exact False.elim hq
    | brk => exact False.elim hq
    | cont => exact False.elim hq
def dFn (sp : SpD) (dds : List D) (t : TAd) : TEd := fun e st Q => t e st fun xs st1 => sp (xs ++ dds) st1 Q
/-- f(e, ..), the rest by defaults -/
theorem pd_fn (F : FnD X.prog X.w X.K X.mg X.base k f fd ps sp) (hG : X.A.guards = some []) (hr : Room k X.A) (hg : Gl X x) (hm : X.mg x = some (.ref f)) (hk : PySem.W.keepIn X.K (.ref f) = true) (hb : Binds X.K fd ps ds)
    (hd : ∃ dvs, Vals dvs ds ∧ ∀ st H, DvsD X.K st H dvs dds) (ha : PDA X (e :: es) t) (hdb : (x == ("__debug__" : Str)) = false := by decide) (he : starEach (e :: es) X.env = (false, eval e X.env) :: starEach es X.env := by rfl)
    (hpl : (backTo pos (starEach es X.env)).any (·.1) = false := by rfl) : PD X (.Call (.Name x p) (e :: es) [] pos) (dFn sp dds t) := by
  refine ⟨fun pins s σ H Q I ⟨en, st, hid, Qd, re, S, h, g⟩ => ?_⟩
  obtain ⟨dvs, hv, hdd⟩ := hd
  refine wpAny_Call_Name_kw (ld_glob I hg hm (PySem.W.callWith_K (h₀ := X.base) I.ok.mod.kin hk (thn (ha.run pos pins s σ H (fun vs H1 => upSp X.K sp (vs ++ dvs) H1 Q E0) I ⟨en, st, hid, _, re, S, h, fun vs H1 ds1 st1 F1 S1 r1 h1 => ?_⟩) fun us s1 ⟨vs, H1, I1, r, q⟩ => ⟨I1.kIn, ?_⟩) he hpl) hdb)
  · exact ⟨_, st1, hid, Qd, DvsD.append r1 (hdd _ _), S1, h1, Go.mono g F1⟩
  · exact run_fg F hG hr I1 (fun hl => hb _ us I1.kIn hl) (r.append hv) q
def pick {α : Type} (ix : List Nat) (xs : List α) : List α := ix.filterMap fun i => xs[i]?
theorem pick_pair {α β : Type} {R : α → β → Prop} {xs : List α} {ys : List β} (r : Paired R xs ys) : ∀ ix : List Nat, Paired R (pick ix xs) (pick ix ys)
  | [] => .nil
  | i :: ix => by
    have ih := pick_pair r ix
    have key : ∀ {xs : List α} {ys : List β} (i : Nat), Paired R xs ys → (xs[i]? = none ∧ ys[i]? = none) ∨ ∃ x y, xs[i]? = some x ∧ ys[i]? = some y ∧ R x y := by
      intro xs ys i r
      induction r generalizing i with
      | nil => exact .inl ⟨by simp, by simp⟩
      | cons h t ih =>
        cases i with
        | zero => exact .inr ⟨_, _, rfl, rfl, h⟩
        | succ i => simpa using ih i
    unfold pick at ih ⊢
    rw [List.filterMap_cons, List.filterMap_cons]
    rcases key i r with ⟨h1, h2⟩ | ⟨x, y, h1, h2, h3⟩
    · rw [h1, h2]
      exact ih
    · rw [h1, h2]
      exact .cons h3 ih
/-- the keywords' values -/
abbrev PDK (X : Cx) (kws : List Keyword) (t : TAd) : Prop := PK X kws (upA X.K t)
theorem PK.imp {X : Cx} {kws : List Keyword} {t t' : TA} (h : PK X kws t) (i : ∀ σ H Q, t' σ H Q → t σ H Q) : PK X kws t' := ⟨fun pos pins s σ H Q I w => h.run pos pins s σ H Q I (i σ H Q w)⟩
theorem pdk_nil : PDK X [] dNil := PK.imp pk_nil fun σ H Q ⟨e, st, hid, Qd, re, S, h, k⟩ => k [] H [] st (Fr.refl _ _) S .nil h
theorem pdk_cons {nm : Option Str} {kpos : Pos} {te : TEd} (ha : PD X e te) (hr : PDK X kws t) : PDK X (⟨nm, e, kpos⟩ :: kws) (dCons te t) :=
  PK.imp (pk_cons ha hr) fun σ H Q ⟨e, st, hid, Qd, re, S, h, k⟩ => ⟨e, st, hid, _, re, S, h, fun v1 H1 d1 st1 F1 S1 r1 h1 => ⟨e, st1, hid, _, re.mono F1 S.sr, S1, h1, fun vs H2 ds st2 F2 S2 r2 h2 =>
    k _ H2 (d1 :: ds) st2 (Fr.trans F1 F2) S2 (.cons (r1.mono F2 S1.sr) r2) h2⟩⟩
def dFnK (sp : SpD) (ix : List Nat) (t : TAd) : TEd := fun e st Q => t e st fun xs st1 => sp (pick ix xs) st1 Q
/-- f(k = v, ..), all by keywords -/
theorem pd_fnK (F : FnD X.prog X.w X.K X.mg X.base k f fd ps sp) (hG : X.A.guards = some []) (hr : Room k X.A) (hg : Gl X x) (hm : X.mg x = some (.ref f)) (hk : PySem.W.keepIn X.K (.ref f) = true) (ix : List Nat)
    (hb : ∀ (s : Shared) (ws : List Value), ws.length = ks.length → BindsTo s fd ⟨[], ks.zip ws⟩ (ps.zip (pick ix ws))) (hn : (pick ix ks).length = ps.length → True) (hkw : PDK X kws t)
    (hall : (backToKw pos (keywordEach kws X.env)).all (·.1.isSome) = true := by rfl) (hks : (backToKw pos (keywordEach kws X.env)).filterMap (·.1) = ks := by rfl) (hl : ∀ us : List Value, (pick ix us).length = ps.length → us.length = ks.length)
    (hdb : (x == ("__debug__" : Str)) = false := by decide) (hpl : (backToKw pos (keywordEach kws X.env)).any (·.1.isNone) = false := by rfl) : PD X (.Call (.Name x p) [] kws pos) (dFnK sp ix t) := by
  refine ⟨fun pins s σ H Q I ⟨en, st, hid, Qd, re, S, h, g⟩ => ?_⟩
  refine wpAny_Call_Name_kw (ld_glob I hg hm (PySem.W.callWith_KW0 (h₀ := X.base) I.ok.mod.kin hk hall (thn (hkw.run pos pins s σ H (fun vs H1 => upSp X.K sp (pick ix vs) H1 Q E0) I ⟨en, st, hid, _, re, S, h, fun vs H1 ds1 st1 F1 S1 r1 h1 => ?_⟩) fun us s1 ⟨vs, H1, I1, r, q⟩ => ⟨I1.kIn, ?_⟩) hpl) hdb)
  · exact ⟨_, st1, hid, Qd, pick_pair r1 ix, S1, h1, Go.mono g F1⟩
  · rw [hks]
    exact run_fg F hG hr I1 (fun hl' => hb s1 us (hl us hl')) (pick_pair r ix) q
end
end DL
namespace DL
open PySem PySem.Spec PyProof.Rows L2
/-- the law's call, from its def's promise -/
theorem lawG {P : Program} {w : World} {K : PySem.W.Frag} {mg mb : Str → Option Value} {k : Nat} {fa a : Addr} {fd : FuncData} {x : Str} {sp : SpD} {s₁ : Shared} {vs : List Value} {ns : List Int}
    (KX : K.In s₁.heap) (hns : s₁.heap.Ns mainGlobals mg) (hbn : s₁.heap.Ns builtinsNs mb) (hbb : ∀ x : Str, x ≠ "__name__" → mb x = bootBuiltins x) (hlim : s₁.heap.NoLimit) (hgens : s₁.gens = #[])
    (ha : s₁.heap.get? a = some { cls := .type "list", data := .seq vs.toArray }) (hi : IntsAre vs ns) (hl : ns.length ≤ sizeLine) (hr : Room k callerA)
    (F : ∀ base : Heap, K.In base → base.Ns mainGlobals mg → FnD P w K mg base k fa fd [x] sp) (hbind : ∀ (s : Shared) (u : Value), BindsTo s fd ⟨[u], []⟩ [(x, u)])
    (hsp : sp [.scr ns] (fun _ => none) fun d _ => d = .d (.bool true)) :
    codeAny (model P w) callerA (.call (.ref fa) ⟨[.ref a], []⟩) (fun r s' => r = .ok (.ret (.bool true)) ∧ OldK s₁.heap s'.heap ∧ s'.os = s₁.os ∧ AllBare s'.gens) s₁ := by
  have rv := vals_ints hi
  have lenV := hi.length
  have core : ∀ H : Hp, Only H → DvD K (fun _ => none) H (.ref a) (.scr ns) → HOk P w H s₁.heap → (∀ b, H b ≠ none → b = a) → (H a ≠ none → K.lookup a = none) →
      codeAny (model P w) callerA (.call (.ref fa) ⟨[.ref a], []⟩) (fun r s' => r = .ok (.ret (.bool true)) ∧ OldK s₁.heap s'.heap ∧ s'.os = s₁.os ∧ AllBare s'.gens) s₁ := by
    intro H hO hS hok hA hK
    have only : ∀ b, H b = none ∨ b = a := fun b => by
      cases q : H b with
      | none => exact .inl rfl
      | some u => exact .inr (hA b (by rw [q]; simp))
    have base_of : ∀ {b : Addr} {o : Obj}, s₁.heap.get? b = some o → H b = none → (hidT s₁.heap H).get? b = some o := fun e n => hidT_get e n
    have noA : ∀ {b : Addr} {o : Obj} {es : Array DictEntry} {ep : Nat}, s₁.heap.get? b = some o → o.data = .dict es ep → H b = none := fun {b o es ep} e d => by
      rcases only b with z | z
      · exact z
      · subst z
        rw [ha] at e
        cases e
        exact absurd (show Data.seq vs.toArray _ = Data.dict es ep from d) (fun z => nomatch z)
    have nsK : ∀ {b : Addr} {m : Str → Option Value}, s₁.heap.Ns b m → (hidT s₁.heap H).Ns b m := fun {b m} ⟨o, es, ep, e, d, r⟩ => ⟨o, es, ep, base_of e (noA e d), d, r⟩
    have hKb : K.In (hidT s₁.heap H) := fun b o e => base_of (KX b o e) (by
      rcases only b with z | z
      · exact z
      · subst z
        cases q : H b with
        | none => rfl
        | some u =>
          rw [hK (by rw [q]; simp)] at e
          cases e)
    have hM : Mod K mg (hidT s₁.heap H) := ⟨hKb, nsK hns, ⟨mb, nsK hbn, hbb⟩, let ⟨mc, h1, h2⟩ := hlim; ⟨mc, nsK h1, h2⟩⟩
    have e0 : Env0 P w K mg (hidT s₁.heap H) callerA [] s₁ H := ⟨rfl, hM, fun b o e => of_hidT e, Nat.le_of_eq (hidT_size _ _), trivial, fun b hb => absurd (show b ∈ ([] : List Addr) from hb) (by simp), hok, .of_eq hgens⟩
    have S0 : Sx K (fun _ => none) (fun _ => none) H := ⟨fun _ _ => rfl, fun b ds z => by cases z⟩
    have hq : upSp K sp [.ref a] H (fun v _ => v = .bl true) (fun _ _ _ => False) := ⟨[.scr ns], (fun _ => none), (fun _ => none), (fun d _ => d = .d (.bool true)), .cons (show DvD K (jn (fun _ => none) (fun _ => none)) H (.ref a) (.scr ns) from hS) .nil, S0, hsp, fun v H' d st' F' S' r q => by
      subst q
      cases r with
      | d r =>
        cases r with
        | bl b => rfl⟩
    refine codeAny_mono ((F _ hKb (nsK hns)).run callerA [] s₁ H ⟨[.ref a], []⟩ [.ref a] [.ref a] _ _ rfl hr e0 (hbind s₁ (.ref a)) (.cons rfl .nil) hq) fun r s' h => ?_
    cases r with
    | error e => exact False.elim h
    | ok fl =>
      cases fl with
      | next => exact False.elim h
      | brk => exact False.elim h
      | cont => exact False.elim h
      | ret u =>
        obtain ⟨v, H', os, bare, un, hok', r', q⟩ := h
        cases (show v = .bl true from q)
        cases (show u = Value.bool true from r')
        refine ⟨rfl, OldK.of_keep fun b o e => ?_, os, bare⟩
        cases q : H b with
        | none => exact un.keep b o e q (by intro z; exact absurd (show b ∈ ([] : List Addr) from z) (by simp)) (by simp)
        | some u =>
          rcases hO b with z | ⟨ob, xs, z⟩
          · rw [q] at z
            cases z
          · obtain ⟨e1, _⟩ := hok b _ z
            obtain ⟨e2, _⟩ := hok' b _ (un.frzs b ob _ z)
            rw [e] at e1
            cases e1
            exact e2
  cases hk : K.lookup a with
  | some o =>
    have e := KX a o hk
    rw [ha] at e
    cases e
    have hS : SqL K (fun _ => none) a (ns.map V.int) := .inr ⟨_, vs.toArray, _, hk, rfl, rfl, rfl, by rw [List.size_toArray, lenV]; exact hl, by simpa using rv⟩
    exact core (fun _ => none) (fun _ => .inl rfl) (.scr hS (.inr hS)) (fun b u z => by cases z) (fun b z => absurd rfl z) fun z => absurd rfl z
  | none =>
    have h1 : ∀ {b}, b = a → (if b = a then some (HO.frz { cls := .type "list", data := .seq vs.toArray } (.lst (ns.map V.int))) else none) = some (HO.frz { cls := .type "list", data := .seq vs.toArray } (.lst (ns.map V.int))) := fun h => if_pos h
    refine core (fun b => if b = a then some (.frz { cls := .type "list", data := .seq vs.toArray } (.lst (ns.map V.int))) else none) (fun b => ?_) (.scr (.inl (.inr ⟨_, if_pos rfl⟩)) (.inl ⟨_, if_pos rfl⟩)) (fun b u z => ?_) (fun b z => ?_) fun _ => hk
    · by_cases hb : b = a
      · exact .inr ⟨_, _, if_pos hb⟩
      · exact .inl (if_neg hb)
    · by_cases hb : b = a
      · have z' := (if_pos hb).symm.trans z
        cases z'
        subst hb
        exact ⟨ha, by rw [List.length_map]; exact hl, vs, _, rv, ha⟩
      · have z' := (if_neg hb).symm.trans z
        cases z'
    · by_cases hb : b = a
      · exact hb
      · exact absurd (if_neg hb) z
/-- the goal that k_head leaves -/
theorem walkG {l : PySem.W.OpenLaw} {n k : Nat} {q : Program} {loose : List Str} {XP : (Str → Option Value) → Heap → Prop} {YP : World → Heap → Prop} {d : DefRec} {K : Params → PySem.W.Frag} {sp : SpD} {x : Str}
    (hn : l.most = some n) (hn2 : n ≤ sizeLine) (hdf : d.params.defaults = []) (hr : Room k callerA) (hY : ∀ (w : World) (h : Heap), YP w h → (K w.params).In h)
    (F : ∀ (w : World) (mg : Str → Option Value) (fa : Addr) (h : Heap), (K w.params).In h → h.Ns mainGlobals mg → mg d.name = some (.ref fa) →
      ∃ fd : FuncData, (∀ (s : Shared) (u : Value), BindsTo s fd ⟨[u], []⟩ [(x, u)]) ∧ ∀ base : Heap, (K w.params).In base → base.Ns mainGlobals mg → FnD l.prog w (K w.params) mg base k fa fd [x] sp)
    (hsp : ∀ ns : List Int, ns.length ≤ n → sp [.scr ns] (fun _ => none) fun d _ => d = .d (.bool true)) :
    PySem.W.WalkO q loose XP YP l.row.toRowW d [] (fun f vs => PySem.call f vs) := by
  refine Att.attach_call hn hdf fun w s₀ s₁ mg mb fa o pm cd doc a vs ns G Y ho hd hcd hmg hobj hints hlen hg => ?_
  obtain ⟨fd, hb, hF⟩ := F w mg fa _ (hY w _ Y) G.T.g hmg
  exact lawG (hY w _ Y) G.T.g G.T.b G.T.builtins G.T.nolimit hg hobj hints (Nat.le_trans hlen hn2) hr hF hb (hsp ns hlen)
end DL
namespace DL
open PySem PySem.Spec PyProof.Rows L2
theorem bt_len : bootBuiltins "len" = some (.builtin "len") := by decide +kernel
theorem bt_abs : bootBuiltins "abs" = some (.builtin "abs") := by decide +kernel
theorem bt_divmod : bootBuiltins "divmod" = some (.builtin "divmod") := by decide +kernel
theorem bt_all : bootBuiltins "all" = some (.builtin "all") := by decide +kernel
theorem bt_repr : bootBuiltins "repr" = some (.builtin "repr") := by decide +kernel
theorem bt_min : bootBuiltins "min" = some (.builtin "min") := by decide +kernel
theorem bt_max : bootBuiltins "max" = some (.builtin "max") := by decide +kernel
theorem bt_int : bootBuiltins "int" = some (.type "int") := by decide +kernel
theorem bt_bool : bootBuiltins "bool" = some (.type "bool") := by decide +kernel
theorem bt_str : bootBuiltins "str" = some (.type "str") := by decide +kernel
theorem bt_list : bootBuiltins "list" = some (.type "list") := by decide +kernel
theorem bt_tuple : bootBuiltins "tuple" = some (.type "tuple") := by decide +kernel
theorem bt_isinstance : bootBuiltins "isinstance" = some (.builtin "isinstance") := by decide +kernel
/-- {}, and a dict of one written pair -/
def dDict (ps : List (PyData × PyData)) : TEd := fun _ st Q => Q (.d (.dict ps)) st
theorem pd_dict0 {X : Cx} {pos : Pos} : PD X (.Dict [] [] pos) (dDict []) := PE.imp pe_dnewK fun σ H Q ⟨e, st, hid, Qd, re, S, h, k⟩ p hp =>
  Go.new k S hp (.d (.dic (kvs := []) (ps := []) upd_same (S.sr.free0 hp) .nil .nil)) h
theorem pd_dict1 {X : Cx} {pos p1 p2 : Pos} {x : Str} {i : Int} {j j2 : Nat} : PD X (.Dict [some (.Constant (.str x) j p1)] [.Constant (.int i) j2 p2] pos) (dDict [(.str x, .int i)]) :=
  PE.imp (pe_disp (pps_cons pe_str pe_int pps_nil) rfl rfl (by simp) (by show 1 ≤ 15; omega)) fun σ H Q ⟨e, st, hid, Qd, re, S, h, k⟩ p hp => by
    refine ⟨upd_same, [(Sum.inr x, .int i)], rfl, by show 1 ≤ 15; omega, ?_⟩
    rw [upd_upd]
    exact Go.new k S hp (.d (.dic (kvs := [(Sum.inr x, .int i)]) (ps := [(.str x, .int i)]) upd_same (S.sr.free0 hp) (.cons (.str x) .nil) (.cons (.int i) .nil))) h
theorem u65 {k : Nat} {A : Around} (r : Room k A) : A.units + 65 < cLine := by
  have := r.un
  omega
/-- a def of the text, callable with a promise -/
structure Can (P : Program) (w : World) (K : PySem.W.Frag) (mg : Str → Option Value) (base : Heap) (k : Nat) (x : Str) (st : Stmt) (ps : List Str) (sp : SpD) : Prop where
  ex : ∃ f fd, FnD P w K mg base k f fd ps sp ∧ mg x = some (.ref f) ∧ Fun K x x st f fd ∧ Binds K fd ps []
/-- where it stands -/
structure Has (K : PySem.W.Frag) (mg : Str → Option Value) (x : Str) (st : Stmt) : Prop where
  ex : ∃ f fd, mg x = some (.ref f) ∧ Fun K x x st f fd
section
variable {P : Program} {w : World} {K : PySem.W.Frag} {mg : Str → Option Value} {base : Heap}
theorem can_of {x : Str} {st : Stmt} {N ps : List Str} {k : Nat} {sp : SpD} {t : TSd} (F : Has K mg x st) (S : FnScope N ps (defScope st)) (len : ∀ ds s Q, sp ds s Q → ds.length = ps.length)
    (bind : ∀ (kV doc pm : Value) (an : Option Addr) (cdv ct : Value) (us : List Value), us.length = ps.length → bindArgs (PySem.W.fnOf x x (defArgs st) (defBody st) (defScope st) .none kV doc pm an cdv ct) ⟨us, []⟩ = pure (ps.zip us))
    (hbody : ∀ (f : Addr) (cd : Value) (A : Around) (outer : List Env) (s : Shared) (H : Hp) (E : XK), A.guards = some [] → Room k (A.deeper (envOfC x (defScope st) s.heap.objs.size f cd)) → PDSs (cxD P w K mg base N x (defScope st) f cd A outer s H E) (defBody st) t)
    (hsp : ∀ ds s Q, sp ds s Q → t { nx := fun _ s' => Q (.d .none) s', rt := Q } (startD N ds) s) : Can P w K mg base (k + 1) x st ps sp := by
  obtain ⟨f, fd, hm, F⟩ := F.ex
  exact ⟨f, fd, fnD_ok F S len (hbody f) hsp, hm, F, F.binds bind⟩
theorem Can.imp {x : Str} {st : Stmt} {ps : List Str} {k : Nat} {sp sp' : SpD} (C : Can P w K mg base k x st ps sp) (i : ∀ ds st Q, sp' ds st Q → sp ds st Q) : Can P w K mg base k x st ps sp' := by
  obtain ⟨f, fd, F, h⟩ := C.ex
  exact ⟨f, fd, FnD.imp F i, h⟩
theorem Can.lift {x : Str} {st : Stmt} {ps : List Str} {j k : Nat} {sp : SpD} (C : Can P w K mg base j x st ps sp) (h : j ≤ k) : Can P w K mg base k x st ps sp := by
  obtain ⟨f, fd, F, h'⟩ := C.ex
  exact ⟨f, fd, FnG.mono F h, h'⟩
end
section
variable {X : Cx} {k : Nat} {ps ks : List Str} {sp : SpD} {x : Str} {st : Stmt} {p pos : Pos} {e : Expr} {es : List Expr} {kws : List Keyword} {t tk : TAd}
def dFn0 (sp : SpD) (t : TAd) : TEd := fun e st Q => t e st fun xs st1 => sp xs st1 Q
theorem pd_call (C : Can X.prog X.w X.K X.mg X.base k x st ps sp) (hG : X.A.guards = some []) (hr : Room k X.A) (hg : Gl X x) (ha : PDA X (e :: es) t) (hdb : (x == ("__debug__" : Str)) = false := by decide)
    (he : starEach (e :: es) X.env = (false, eval e X.env) :: starEach es X.env := by rfl) (hpl : (backTo pos (starEach es X.env)).any (·.1) = false := by rfl) : PD X (.Call (.Name x p) (e :: es) [] pos) (dFn0 sp t) := by
  obtain ⟨f, fd, F, hm, Fn, B⟩ := C.ex
  refine PE.imp (pd_fn (dds := []) F hG hr hg hm Fn.kp B ⟨[], .nil, fun _ _ => .nil⟩ ha hdb he hpl) fun σ H Q ⟨e, s, hid, Qd, re, S, h, k⟩ => ⟨e, s, hid, Qd, re, S, ?_, k⟩
  have ee : (fun xs st1 => sp (xs ++ []) st1 Qd) = fun xs st1 => sp xs st1 Qd := by
    funext xs st1
    rw [List.append_nil]
  show t e s (fun xs st1 => sp (xs ++ []) st1 Qd)
  rw [ee]
  exact h
theorem pd_callK (C : Can X.prog X.w X.K X.mg X.base k x st ps sp) (hG : X.A.guards = some []) (hr : Room k X.A) (hg : Gl X x) (ix : List Nat)
    (hb : ∀ (kV doc pm : Value) (an : Option Addr) (cdv ct : Value) (ws : List Value), ws.length = ks.length → bindArgs (PySem.W.fnOf x x (defArgs st) (defBody st) (defScope st) .none kV doc pm an cdv ct) ⟨[], ks.zip ws⟩ = pure (ps.zip (pick ix ws)))
    (hkw : PDK X kws t)
    (hall : (backToKw pos (keywordEach kws X.env)).all (·.1.isSome) = true := by rfl) (hks : (backToKw pos (keywordEach kws X.env)).filterMap (·.1) = ks := by rfl)
    (hdb : (x == ("__debug__" : Str)) = false := by decide) (hpl : (backToKw pos (keywordEach kws X.env)).any (·.1.isNone) = false := by rfl) (hlen : ∀ e s Q, t e s Q → t e s fun xs s' => xs.length = ks.length ∧ Q xs s') : PD X (.Call (.Name x p) [] kws pos) (dFnK sp ix t) := by
  obtain ⟨f, fd, F, hm, Fn, B⟩ := C.ex
  obtain ⟨oc, od, kV, doc, pm, an, cd, ct, osl, rfl, lk, hcd⟩ := Fn.ex
  refine ⟨fun pins s σ H Q I ⟨en, sd, hid, Qd, re, S, h, g⟩ => ?_⟩
  refine wpAny_Call_Name_kw (ld_glob I hg hm (PySem.W.callWith_KW0 (h₀ := X.base) I.ok.mod.kin Fn.kp hall (thn (hkw.run pos pins s σ H (fun vs H1 => vs.length = ks.length ∧ upSp X.K sp (pick ix vs) H1 Q E0) I ⟨en, sd, hid, _, re, S, hlen _ _ _ h, fun vs H1 ds1 st1 F1 S1 r1 ⟨hl1, h1⟩ => ?_⟩) fun us s1 ⟨vs, H1, I1, r, hl, q⟩ => ⟨I1.kIn, ?_⟩) hpl) hdb)
  · exact ⟨(Paired.length r1).trans hl1, _, st1, hid, Qd, pick_pair r1 ix, S1, h1, Go.mono g F1⟩
  · rw [hks]
    exact run_fg F hG hr I1 (fun _ => .of_eq (hb kV doc pm an cd ct us (by rw [← r.length]; exact hl))) (pick_pair r ix) q
end
end DL
namespace DL
open PySem PySem.Spec PyProof.Rows L2
/-! ### readings, run -/
theorem frz_d {Q : Kd} {x : PyData} {st : Sto} : frz Q (.d x) st = Q (.d x) st := propext ⟨fun h => h.elim _root_.id fun ⟨a, xs, z, _⟩ => (nomatch z), .inl⟩
theorem var_zero {d : D} {e : Ed} {st : Sto} {Q : Kd} : dVar 0 (some d :: e) st Q = Q d st := propext ⟨fun ⟨d', h, q⟩ => by
  cases h
  exact q, fun q => ⟨d, rfl, q⟩⟩
theorem var_succ {n : Nat} {x : Option D} {e : Ed} {st : Sto} {Q : Kd} : dVar (n + 1) (x :: e) st Q = dVar n e st Q := rfl
theorem var_set {i : Nat} {d : D} {e : Ed} {st : Sto} {Q : Kd} (h : i < e.length) : dVar i (e.set i (some d)) st Q = Q d st := propext ⟨fun ⟨d', h', q⟩ => by
  rw [List.getElem?_set_self h] at h'
  cases h'
  exact q, fun q => ⟨d, List.getElem?_set_self h, q⟩⟩
theorem var_ne {i j : Nat} {x : Option D} {e : Ed} {st : Sto} {Q : Kd} (h : j ≠ i) : dVar i (e.set j x) st Q = dVar i e st Q := by
  unfold dVar
  rw [List.getElem?_set_ne h]
theorem nil_go {e : Ed} {st : Sto} {Q : Ed → Sto → Prop} : hNil [] e st Q = Q e st := propext ⟨fun h => h.2, fun h => ⟨rfl, h⟩⟩
theorem put_put {st : Sto} {a : Addr} {xs ys : List D} : put (put st a xs) a ys = put st a ys := by
  funext b
  by_cases h : b = a
  · rw [h, put_same, put_same]
  · rw [put_ne h, put_ne h, put_ne h]
theorem own_some {d : PyData} {st : Sto} : (∀ a, D.d d = .own a → (st a).isSome = true) = True := propext ⟨fun _ => trivial, fun _ a z => nomatch z⟩
theorem kit_all {T : String} (hT : ∀ t ∈ ["NoneType", "bool", "int", "str", "tuple", "dict", "list"], (kitB t T).isSome = true) (d : D) : (kitB (tyD d) T).isSome = true := by
  refine hT _ ?_
  cases d with
  | own a => simp [tyD]
  | scr ns => simp [tyD]
  | d x => cases x <;> simp [tyD]
theorem kit_int (d : D) : ((kitB (tyD d) "int").isSome = true) = True := eq_true (kit_all (by decide +kernel) d)
theorem kit_bool (d : D) : ((kitB (tyD d) "bool").isSome = true) = True := eq_true (kit_all (by decide +kernel) d)
theorem kit_tuple (d : D) : ((kitB (tyD d) "tuple").isSome = true) = True := eq_true (kit_all (by decide +kernel) d)
theorem kit_str (d : D) : ((kitB (tyD d) "str").isSome = true) = True := eq_true (kit_all (by decide +kernel) d)
theorem is_int (x : PyData) : isT "int" (.d x) = match x with
    | .int _ => true
    | .bool _ => true
    | _ => false := by
  cases x with
  | none => exact (by decide +kernel : (kitB "NoneType" "int").getD false = false)
  | bool _ => exact (by decide +kernel : (kitB "bool" "int").getD false = true)
  | int _ => exact (by decide +kernel : (kitB "int" "int").getD false = true)
  | str _ => exact (by decide +kernel : (kitB "str" "int").getD false = false)
  | list _ => exact (by decide +kernel : (kitB "list" "int").getD false = false)
  | tuple _ => exact (by decide +kernel : (kitB "tuple" "int").getD false = false)
  | dict _ => exact (by decide +kernel : (kitB "dict" "int").getD false = false)
theorem is_bool (x : PyData) : isT "bool" (.d x) = match x with
    | .bool _ => true
    | _ => false := by
  cases x with
  | none => exact (by decide +kernel : (kitB "NoneType" "bool").getD false = false)
  | bool _ => exact (by decide +kernel : (kitB "bool" "bool").getD false = true)
  | int _ => exact (by decide +kernel : (kitB "int" "bool").getD false = false)
  | str _ => exact (by decide +kernel : (kitB "str" "bool").getD false = false)
  | list _ => exact (by decide +kernel : (kitB "list" "bool").getD false = false)
  | tuple _ => exact (by decide +kernel : (kitB "tuple" "bool").getD false = false)
  | dict _ => exact (by decide +kernel : (kitB "dict" "bool").getD false = false)
theorem is_tuple (x : PyData) : isT "tuple" (.d x) = match x with
    | .tuple _ => true
    | _ => false := by
  cases x with
  | none => exact (by decide +kernel : (kitB "NoneType" "tuple").getD false = false)
  | bool _ => exact (by decide +kernel : (kitB "bool" "tuple").getD false = false)
  | int _ => exact (by decide +kernel : (kitB "int" "tuple").getD false = false)
  | str _ => exact (by decide +kernel : (kitB "str" "tuple").getD false = false)
  | list _ => exact (by decide +kernel : (kitB "list" "tuple").getD false = false)
  | tuple _ => exact (by decide +kernel : (kitB "tuple" "tuple").getD false = true)
  | dict _ => exact (by decide +kernel : (kitB "dict" "tuple").getD false = false)
theorem is_str (x : PyData) : isT "str" (.d x) = match x with
    | .str _ => true
    | _ => false := by
  cases x with
  | none => exact (by decide +kernel : (kitB "NoneType" "str").getD false = false)
  | bool _ => exact (by decide +kernel : (kitB "bool" "str").getD false = false)
  | int _ => exact (by decide +kernel : (kitB "int" "str").getD false = false)
  | str _ => exact (by decide +kernel : (kitB "str" "str").getD false = true)
  | list _ => exact (by decide +kernel : (kitB "list" "str").getD false = false)
  | tuple _ => exact (by decide +kernel : (kitB "tuple" "str").getD false = false)
  | dict _ => exact (by decide +kernel : (kitB "dict" "str").getD false = false)
theorem line_small {n : Nat} (h : n ≤ 1000) : (n ≤ sizeLine) = True := eq_true (Nat.le_trans h (by decide))
theorem pures_nil : pures [] = some [] := rfl
theorem pures_cons {x : PyData} {r : List D} : pures (.d x :: r) = (pures r).map (x :: ·) := rfl
theorem no_own {p : Prop} : (∀ a : Addr, False → p) = True := propext ⟨fun _ => trivial, fun _ _ z => z.elim⟩
theorem no_own2 {p : Addr → Prop} : (∀ a : Addr, False → p a) = True := propext ⟨fun _ => trivial, fun _ _ z => z.elim⟩
theorem eqv_int {i j : Int} : (PyData.int i).eqv (.int j) = decide (i = j) := by
  show (i == j) = _
  rw [Bool.eq_iff_iff]
  simp
theorem sh_int {i : Int} : (SeqAt.shaped (.int i) = true) = True := eq_true (by simp [SeqAt.shaped, PyData.canLay0, PyData.depth])
theorem sh_bool {i : Bool} : (SeqAt.shaped (.bool i) = true) = True := eq_true (by simp [SeqAt.shaped, PyData.canLay0, PyData.depth])
theorem ixt_0 {a : PyData} {r : List PyData} {st : Sto} {Q : Kd} : rIxD (.d (.tuple (a :: r))) (.d (.int 0)) st Q = Q (.d a) st := propext ⟨fun h => by
  obtain ⟨v, h, q⟩ := h
  have e : atI (a :: r) 0 = some a := atI_nat (j := 0) rfl
  rw [e] at h
  cases h
  exact q, fun q => ⟨_, atI_nat (j := 0) rfl, q⟩⟩
theorem ixl_0 {a : PyData} {r : List PyData} {st : Sto} {Q : Kd} : rIxD (.d (.list (a :: r))) (.d (.int 0)) st Q = Q (.d a) st := propext ⟨fun h => by
  obtain ⟨ds, v, e, h, q⟩ := h
  cases e
  have e : atI ((a :: r).map D.d) 0 = some (D.d a) := atI_nat (j := 0) rfl
  rw [e] at h
  cases h
  exact q, fun q => ⟨_, _, rfl, atI_nat (j := 0) rfl, q⟩⟩
theorem ixt_1 {a b : PyData} {r : List PyData} {st : Sto} {Q : Kd} : rIxD (.d (.tuple (a :: b :: r))) (.d (.int 1)) st Q = Q (.d b) st := propext ⟨fun h => by
  obtain ⟨v, h, q⟩ := h
  have e : atI (a :: b :: r) 1 = some b := atI_nat (j := 1) rfl
  rw [e] at h
  cases h
  exact q, fun q => ⟨_, atI_nat (j := 1) rfl, q⟩⟩
theorem ixl_1 {a b : PyData} {r : List PyData} {st : Sto} {Q : Kd} : rIxD (.d (.list (a :: b :: r))) (.d (.int 1)) st Q = Q (.d b) st := propext ⟨fun h => by
  obtain ⟨ds, v, e, h, q⟩ := h
  cases e
  have e : atI ((a :: b :: r).map D.d) 1 = some (D.d b) := atI_nat (j := 1) rfl
  rw [e] at h
  cases h
  exact q, fun q => ⟨_, _, rfl, atI_nat (j := 1) rfl, q⟩⟩
theorem ixt_2 {a b c : PyData} {r : List PyData} {st : Sto} {Q : Kd} : rIxD (.d (.tuple (a :: b :: c :: r))) (.d (.int 2)) st Q = Q (.d c) st := propext ⟨fun h => by
  obtain ⟨v, h, q⟩ := h
  have e : atI (a :: b :: c :: r) 2 = some c := atI_nat (j := 2) rfl
  rw [e] at h
  cases h
  exact q, fun q => ⟨_, atI_nat (j := 2) rfl, q⟩⟩
theorem ixl_2 {a b c : PyData} {r : List PyData} {st : Sto} {Q : Kd} : rIxD (.d (.list (a :: b :: c :: r))) (.d (.int 2)) st Q = Q (.d c) st := propext ⟨fun h => by
  obtain ⟨ds, v, e, h, q⟩ := h
  cases e
  have e : atI ((a :: b :: c :: r).map D.d) 2 = some (D.d c) := atI_nat (j := 2) rfl
  rw [e] at h
  cases h
  exact q, fun q => ⟨_, _, rfl, atI_nat (j := 2) rfl, q⟩⟩
theorem ixt_3 {a b c d : PyData} {r : List PyData} {st : Sto} {Q : Kd} : rIxD (.d (.tuple (a :: b :: c :: d :: r))) (.d (.int 3)) st Q = Q (.d d) st := propext ⟨fun h => by
  obtain ⟨v, h, q⟩ := h
  have e : atI (a :: b :: c :: d :: r) 3 = some d := atI_nat (j := 3) rfl
  rw [e] at h
  cases h
  exact q, fun q => ⟨_, atI_nat (j := 3) rfl, q⟩⟩
theorem ixl_3 {a b c d : PyData} {r : List PyData} {st : Sto} {Q : Kd} : rIxD (.d (.list (a :: b :: c :: d :: r))) (.d (.int 3)) st Q = Q (.d d) st := propext ⟨fun h => by
  obtain ⟨ds, v, e, h, q⟩ := h
  cases e
  have e : atI ((a :: b :: c :: d :: r).map D.d) 3 = some (D.d d) := atI_nat (j := 3) rfl
  rw [e] at h
  cases h
  exact q, fun q => ⟨_, _, rfl, atI_nat (j := 3) rfl, q⟩⟩
theorem ixt_4 {a b c d e : PyData} {r : List PyData} {st : Sto} {Q : Kd} : rIxD (.d (.tuple (a :: b :: c :: d :: e :: r))) (.d (.int 4)) st Q = Q (.d e) st := propext ⟨fun h => by
  obtain ⟨v, h, q⟩ := h
  have e : atI (a :: b :: c :: d :: e :: r) 4 = some e := atI_nat (j := 4) rfl
  rw [e] at h
  cases h
  exact q, fun q => ⟨_, atI_nat (j := 4) rfl, q⟩⟩
theorem ixl_4 {a b c d e : PyData} {r : List PyData} {st : Sto} {Q : Kd} : rIxD (.d (.list (a :: b :: c :: d :: e :: r))) (.d (.int 4)) st Q = Q (.d e) st := propext ⟨fun h => by
  obtain ⟨ds, v, e, h, q⟩ := h
  cases e
  have e : atI ((a :: b :: c :: d :: e :: r).map D.d) 4 = some (D.d e) := atI_nat (j := 4) rfl
  rw [e] at h
  cases h
  exact q, fun q => ⟨_, _, rfl, atI_nat (j := 4) rfl, q⟩⟩
/-- a comprehension whose element is a function of the item -/
theorem lcV_pure {ti : TId} {i : Nat} {te : TEd} {e : Ed} {st : Sto} {Q : Kd} (xs : List D) (f : D → PyData) (hti : ∀ R : ItD → Sto → Prop, R ⟨xs, none⟩ st → ti e st R) (hl : xs.length < sizeLine)
    (hf : ∀ d ∈ xs, ∀ K : Kd, K (.d (f d)) st → te (e.set i (some d)) st K) (q : Q (.d (.list (xs.map f))) st) : dLcV ti i dYes te e st Q := by
  refine hti _ ⟨fun j acc st' => st' = st ∧ j ≤ xs.length ∧ acc = (xs.take j).map fun d => D.d (f d), ⟨rfl, Nat.zero_le _, rfl⟩, ?_⟩
  rintro j acc st' ⟨rfl, hj, rfl⟩
  refine ⟨(fun a ds z => nomatch z), fun hd => ?_, fun d hd => ?_⟩
  · have e1 : xs.take j = xs := List.take_of_length_le hd
    rw [e1]
    refine ⟨xs.map f, ?_, q⟩
    rw [show (xs.map fun d => D.d (f d)) = (xs.map f).map D.d by rw [List.map_map]; rfl]
    exact pures_map _
  · have hd' : xs[j]? = some d := hd
    have hlt : j < xs.length := (List.getElem?_eq_some_iff.mp hd').1
    refine (show dYes (e.set i (some d)) st' (fun b s2 => if b = true then te (e.set i (some d)) s2 _ else _) from ?_)
    refine hf d (List.mem_of_getElem? hd') _ ⟨?_, rfl, hlt, ?_⟩
    · rw [List.length_map, List.length_take]
      omega
    · rw [List.take_add_one, hd', List.map_append]
      rfl
/-! ### written data -/
def Val (te : TEd) (e : Ed) : Prop := ∃ x, ∀ st Q, Q (.d x) st → te e st Q
def Vls (t : TAd) (e : Ed) (n : Nat) : Prop := ∃ xs : List PyData, xs.length = n ∧ ∀ st Q, Q (xs.map D.d) st → t e st Q
theorem val_c {x : PyData} {e : Ed} : Val (dC x) e := ⟨x, fun _ _ q => q⟩
theorem val_dict {ps : List (PyData × PyData)} {e : Ed} : Val (dDict ps) e := ⟨.dict ps, fun _ _ q => q⟩
theorem val_var {i : Nat} {x : PyData} {e : Ed} (h : e[i]? = some (some (.d x))) : Val (dVar i) e := ⟨x, fun _ _ q => ⟨_, h, q⟩⟩
theorem val_neg {i : Int} {e : Ed} : Val (dNeg (dC (.int i))) e := ⟨.int (-i), fun _ _ q => q⟩
theorem val_pow {i j : Int} {e : Ed} (h : CPow i j) : Val (dBin rPowD (dC (.int i)) (dC (.int j))) e := ⟨.int (i ^ j.toNat), fun _ _ q => ⟨h, q⟩⟩
theorem vls_nil {e : Ed} : Vls dNil e 0 := ⟨[], rfl, fun _ _ q => q⟩
theorem vls_cons {te : TEd} {t : TAd} {e : Ed} {n : Nat} (h : Val te e) (r : Vls t e n) : Vls (dCons te t) e (n + 1) := by
  obtain ⟨x, hx⟩ := h
  obtain ⟨xs, hl, hr⟩ := r
  exact ⟨x :: xs, by rw [List.length_cons, hl], fun st Q q => hx _ _ (hr _ _ q)⟩
theorem val_tup {t : TAd} {e : Ed} {n : Nat} (r : Vls t e n) (hn : n ≤ 1000) : Val (dTup t) e := by
  obtain ⟨xs, hl, hr⟩ := r
  refine ⟨.tuple xs, fun st Q q => hr _ _ ?_⟩
  show match pures (xs.map D.d) with
    | some ys => (xs.map D.d).length ≤ sizeLine ∧ Q (.d (.tuple ys)) st
    | none => False
  rw [pures_map]
  exact ⟨by rw [List.length_map, hl]; exact Nat.le_trans hn (by decide), q⟩
theorem val_lst {t : TAd} {e : Ed} {n : Nat} (r : Vls t e n) (hn : n ≤ 1000) : Val (dLst t) e := by
  obtain ⟨xs, hl, hr⟩ := r
  exact ⟨.list xs, fun st Q q => hr _ _ ⟨by rw [List.length_map, hl]; exact Nat.le_trans hn (by decide), .inl ⟨xs, pures_map xs, q⟩⟩⟩
theorem val_lstV {t : TAd} {e : Ed} {n : Nat} (r : Vls t e n) (hn : n ≤ 1000) : Val (dLstV t) e := by
  obtain ⟨xs, hl, hr⟩ := r
  refine ⟨.list xs, fun st Q q => hr _ _ ?_⟩
  show match pures (xs.map D.d) with
    | some ys => (xs.map D.d).length ≤ sizeLine ∧ Q (.d (.list ys)) st
    | none => False
  rw [pures_map]
  exact ⟨by rw [List.length_map, hl]; exact Nat.le_trans hn (by decide), q⟩
theorem lstV_then {t : TAd} {e : Ed} {st : Sto} {Q : Kd} {n : Nat} (r : Vls t e n) (hn : n ≤ 1000) (h : ∀ xs : List PyData, xs.length = n → Q (.d (.list xs)) st) : dLstV t e st Q := by
  obtain ⟨xs, hl, hr⟩ := r
  refine hr _ _ ?_
  show match pures (xs.map D.d) with
    | some ys => (xs.map D.d).length ≤ sizeLine ∧ Q (.d (.list ys)) st
    | none => False
  rw [pures_map]
  exact ⟨by rw [List.length_map, hl]; exact Nat.le_trans hn (by decide), h xs hl⟩
theorem lst_then {t : TAd} {e : Ed} {st : Sto} {Q : Kd} {n : Nat} (r : Vls t e n) (hn : n ≤ 1000) (h : ∀ xs : List PyData, xs.length = n → Q (.d (.list xs)) st) : dLst t e st Q := by
  obtain ⟨xs, hl, hr⟩ := r
  exact hr _ _ ⟨by rw [List.length_map, hl]; exact Nat.le_trans hn (by decide), .inl ⟨xs, pures_map xs, h xs hl⟩⟩
end DL
local macro_rules | `(tactic| walk_at "val") => `(tactic| repeat' (first | exact DL.vls_nil | apply DL.vls_cons | exact DL.val_c | exact DL.val_dict | exact DL.val_neg | exact DL.val_var rfl | apply DL.val_tup | apply DL.val_lst | apply DL.val_lstV | exact DL.val_pow ⟨by decide, by decide, by decide⟩ | decide))
local macro_rules | `(tactic| walk_at "st") => `(tactic| simp only [DL.startD, List.map_cons, List.map_nil, List.length_cons, List.length_nil, Nat.reduceAdd, Nat.reduceSub, List.replicate_succ, List.replicate_zero, List.cons_append, List.nil_append, List.append_nil, Nat.sub_self, Nat.zero_add])
local macro_rules | `(tactic| walk_at "go") => `(tactic| simp only [↓DL.dSeq, ↓DL.dNext, ↓DL.dAsg, ↓DL.dRet, ↓DL.dRetN, ↓DL.dIfS, ↓DL.dDrop, ↓DL.dBin, ↓DL.dCons, ↓DL.dNil, ↓DL.dTup, ↓DL.dC, ↓DL.dNeg, ↓DL.dAnd, ↓DL.dOr, ↓DL.dNot, ↓DL.dIf, ↓DL.dTst, ↓DL.asB, ↓DL.dChain, ↓DL.dAndT, ↓DL.dOrT, ↓DL.dNotT, ↓DL.dCall, ↓DL.dFn0, ↓DL.dFnK, ↓DL.dIs, ↓DL.dSl, ↓DL.dNoP, ↓DL.dPart, ↓DL.dRev, ↓DL.dLst, ↓DL.dLstV, ↓DL.cListV, ↓DL.dDict, ↓DL.dPar, ↓DL.dPar3, ↓DL.hTup, ↓DL.hCons, ↓DL.nil_go, ↓DL.hName, ↓DL.hSub, ↓DL.rI2, ↓DL.rSubD, ↓DL.rMulD, ↓DL.rDivD, ↓DL.rModD, ↓DL.rPowD, ↓DL.rLtD, ↓DL.rLeD, ↓DL.rGtD, ↓DL.rGeD, ↓DL.rAddD, ↓DL.ixt_0, ↓DL.ixt_1, ↓DL.ixt_2, ↓DL.ixt_3, ↓DL.ixt_4, ↓DL.ixl_0, ↓DL.ixl_1, ↓DL.ixl_2, ↓DL.ixl_3, ↓DL.ixl_4, ↓DL.rEqV, ↓DL.rNeV, ↓DL.rSlD, ↓DL.cLen, ↓DL.cAbs, ↓DL.cInt, ↓DL.cStrI, ↓DL.cDivmod, ↓DL.cMin, ↓DL.cMax, ↓DL.cGcd, ↓DL.cLcm, ↓DL.cAll, ↓DL.cRepr, ↓DL.cList, ↓DL.cTuple, ↓DL.rC1, ↓DL.rC2, ↓DL.dNever, ↓DL.dIter, ↓DL.dRng1, ↓DL.dRng2, ↓DL.dYes,
  ↓DL.frz_d, ↓DL.var_zero, ↓DL.var_succ, ↓DL.var_set, ↓DL.var_ne, DL.own_some, DL.no_own2, DL.eqv_int, DL.sh_int, DL.sh_bool, DL.kit_int, DL.kit_bool, DL.kit_tuple, DL.kit_str, DL.is_int, DL.is_bool, DL.is_tuple, DL.is_str, DL.pures_nil, DL.pures_cons, Option.map_some, List.length_cons, List.length_nil, List.length_set, List.map_cons, List.map_nil, DL.pick, List.filterMap_cons, List.filterMap_nil,
  true_and, and_true, ite_true, ite_false, if_true, if_false, reduceIte, reduceCtorEq, ne_eq, not_false_eq_true, Nat.reduceAdd, Nat.reduceLT, Nat.reduceEqDiff, decide_eq_true_eq, Bool.not_true, Bool.not_false, Bool.false_eq_true, eq_self])
namespace DL
open PySem PySem.Spec PyProof.Rows L2
/-! ### x in xs, x not in xs -/
def flatP : PyData → Bool
  | .none => true
  | .bool _ => true
  | .int _ => true
  | .str _ => true
  | _ => false
theorem bne_ite (neg b : Bool) : (if neg = true then !b else b) = (neg != b) := by cases neg <;> cases b <;> rfl
section
variable {K : PySem.W.Frag} {st : Sto} {H : Hp}
theorem flat_v {v : V} {x : PyData} (r : Dv K st H v x) (f : flatP x = true) : flatV v = true := by
  cases r <;> first | rfl | exact absurd f Bool.false_ne_true
theorem flat_vs : ∀ {vs : List V} {xs : List PyData}, Dvs K st H vs xs → xs.all flatP = true → vs.all flatV = true
  | _, _, .nil, _ => rfl
  | _, _, .cons h t, f => by
    rw [List.all_cons, Bool.and_eq_true] at f ⊢
    exact ⟨flat_v h f.1, flat_vs t f.2⟩
theorem flat_eq {v w : V} {x y : PyData} (r : Dv K st H v x) (q : Dv K st H w y) (f : flatP x = true) (g : flatP y = true) : eqV v w = PyData.eqv x y := by
  cases r <;> cases q <;> first | (simp only [eqV, PyData.eqv]; done) | exact absurd f Bool.false_ne_true | exact absurd g Bool.false_ne_true | rfl
theorem flat_in {v : V} {x : PyData} (r : Dv K st H v x) (f : flatP x = true) : ∀ {vs : List V} {xs : List PyData}, Dvs K st H vs xs → xs.all flatP = true → inV v vs = xs.any fun z => PyData.eqv z x
  | _, _, .nil, _ => rfl
  | _, _, .cons h t, g => by
    rw [List.all_cons, Bool.and_eq_true] at g
    show (eqV _ v || inV v _) = (PyData.eqv _ x || _)
    rw [flat_eq h r g.1 f, flat_in r f t g.2]
end
def rInV (neg : Bool) : R2d := fun x y st Q => match x with
  | .d a => match y with
    | .d (.tuple xs) => flatP a = true ∧ xs.all flatP = true ∧ Q (.d (.bool (neg != xs.any fun z => PyData.eqv z a))) st
    | y => ∃ xs : List PyData, lstOf y st = some (xs.map D.d) ∧ ((flatP a = true ∧ xs.all flatP = true) ∨ (SeqAt.shaped a = true ∧ SeqAt.shaped (.list xs) = true)) ∧ Q (.d (.bool (neg != xs.any fun z => PyData.eqv z a))) st
  | _ => False
theorem dpAll_of {K : PySem.W.Frag} {st : Sto} {H : Hp} {vs : List V} {xs : List PyData} (r : Dvs K st H vs xs) (h : SeqAt.shaped (.list xs) = true) : DpAll K H vs xs := Dvs.dp r (by simpa [PyData.hasDict] using noDict h)
section
variable {X : Cx}
theorem o_in (hu : X.A.units + 65 < cLine) : OpR X (compareOp .In) (upR X.K (rInV false)) := fun pins s σ H x y v u Q I rx ry ⟨dx, dy, st, hid, Qd, hx, hy, S, w, k⟩ => by
  cases hx with
  | d hx =>
    rename_i a
    dsimp only [rInV] at w
    split at w
    · obtain ⟨p, vs, rfl, h1, r1⟩ := tup_at hy
      refine op_in_seq pins s σ H _ _ v u Q I rx ry ⟨p, vs, rfl, .inr h1, flat_v hx w.1, flat_vs r1 w.2.1, ?_⟩
      rw [bne_ite, flat_in hx w.1 r1 w.2.1]
      exact k.now S (.d (.bl _)) w.2.2
    · obtain ⟨xs, e, c, q⟩ := w
      obtain ⟨p, vs, rfl, h1, r1⟩ := lstOf_at hy S e
      have r1 := Dvs.of r1
      rcases c with c | c
      · refine op_in_seq pins s σ H _ _ v u Q I rx ry ⟨p, vs, rfl, .inl h1, flat_v hx c.1, flat_vs r1 c.2, ?_⟩
        rw [bne_ite, flat_in hx c.1 r1 c.2]
        exact k.now S (.d (.bl _)) q
      · refine op_inD hu pins s σ H _ _ v u Q I rx ry ⟨a, xs, hx.dp (noDict c.1), .lst h1 (dpAll_of r1 c.2), c.1, c.2, ?_⟩
        rw [Bool.false_bne] at q
        exact k.now S (.d (.bl _)) q
  | _ => exact w.elim
theorem o_notin (hu : X.A.units + 65 < cLine) : OpR X (compareOp .NotIn) (upR X.K (rInV true)) := fun pins s σ H x y v u Q I rx ry ⟨dx, dy, st, hid, Qd, hx, hy, S, w, k⟩ => by
  cases hx with
  | d hx =>
    rename_i a
    dsimp only [rInV] at w
    split at w
    · obtain ⟨p, vs, rfl, h1, r1⟩ := tup_at hy
      refine op_notIn_seq pins s σ H _ _ v u Q I rx ry ⟨p, vs, rfl, .inr h1, flat_v hx w.1, flat_vs r1 w.2.1, ?_⟩
      rw [bne_ite, flat_in hx w.1 r1 w.2.1]
      exact k.now S (.d (.bl _)) w.2.2
    · obtain ⟨xs, e, c, q⟩ := w
      obtain ⟨p, vs, rfl, h1, r1⟩ := lstOf_at hy S e
      have r1 := Dvs.of r1
      rcases c with c | c
      · refine op_notIn_seq pins s σ H _ _ v u Q I rx ry ⟨p, vs, rfl, .inl h1, flat_v hx c.1, flat_vs r1 c.2, ?_⟩
        rw [bne_ite, flat_in hx c.1 r1 c.2]
        exact k.now S (.d (.bl _)) q
      · refine op_notInD hu pins s σ H _ _ v u Q I rx ry ⟨a, xs, hx.dp (noDict c.1), .lst h1 (dpAll_of r1 c.2), c.1, c.2, ?_⟩
        rw [Bool.true_bne] at q
        exact k.now S (.d (.bl _)) q
  | _ => exact w.elim
/-! ### i * j, xs * n -/
def rMulX : R2d := fun x y st Q => match x, y with
  | .d (.int i), .d (.int j) => CMulW i j ∧ Q (.d (.int (i * j))) st
  | .d (.list xs), .d (.int n) => 0 ≤ n ∧ n < 1000 ∧ xs.length * n.toNat ≤ sizeLine ∧ Q (.d (.list (List.replicate n.toNat xs).flatten)) st
  | _, _ => False
theorem dvs_rep {K : PySem.W.Frag} {st : Sto} {H : Hp} {vs : List V} {xs : List PyData} (r : Dvs K st H vs xs) : ∀ n : Nat, Dvs K st H (List.replicate n vs).flatten (List.replicate n xs).flatten
  | 0 => .nil
  | n + 1 => by
    rw [List.replicate_succ, List.replicate_succ, List.flatten_cons, List.flatten_cons]
    exact r.append (dvs_rep r n)
theorem o_mulX : OpR X (binaryOp .Mult) (upR X.K rMulX) := fun pins s σ H x y v u Q I rx ry ⟨dx, dy, st, hid, Qd, hx, hy, S, w, k⟩ => by
  unfold rMulX at w
  split at w
  · rename_i i j
    exact o_mul pins s σ H x y v u Q I rx ry ⟨_, _, st, hid, Qd, hx, hy, S, w, k⟩
  · rename_i xs n
    obtain ⟨h0, h1, h2, q⟩ := w
    obtain ⟨a, vs, rfl, h3, r1⟩ := wlOf_at hx S rfl
    have r1 := Dvs.of r1
    cases int_at hy
    refine op_rep pins s σ H _ _ v u Q I rx ry ⟨a, n, vs, rfl, rfl, h3, by omega, by omega, by rw [r1.length]; exact h2, fun p hp => ?_⟩
    exact k.new S hp (.d (.lst upd_same (S.sr.free0 hp) ((dvs_rep r1 _).mono (fr_new hp) S.sr))) q
  · exact w.elim
end
/-! ### enumerate(xs) -/
/-- the tuple at a as it stands at each turn, each item in a new pair -/
def IteT (K : PySem.W.Frag) (a : Addr) : It :=
  ⟨fun i H => ∃ (xs : List V) (x : V), SqT K H a xs ∧ xs[i]? = some x, fun i H v H' => ∃ T x, v = .ref T ∧ H T = none ∧ H' = upd H T (.tup [.int (i : Nat), x]) ∧ ∀ xs, SqT K H a xs → xs[i]? = some x, fun i H => ∃ xs : List V, SqT K H a xs ∧ xs.length ≤ i⟩
section
variable {prog : Program} {w : World} {A : Around} {E : Value → Shared → Prop} {s : Shared}
theorem meets_enumerate_new1 {v : Value} {o : Obj} {H : Heap → Prop} (B : Begins v o H) :
    Meets (Builtin.«enumerate.__new__» ⟨[.type "enumerate", v], []⟩) (fun _ R s => H s.heap ∧
      R (.ok (.ret (.ref (s.heap.push o).objs.size))) { s with heap := (s.heap.push o).push { cls := .type "enumerate", data := .fields #[.none, .bool false, .ref s.heap.objs.size, rawInt 0, .none, .none] } }) :=
  .of_wp fun prog w A R s h => by
    obtain ⟨hp, g, d, tk, os⟩ := s; obtain ⟨h1, h⟩ := h
    have hsub := sub_enumerate
    have q1 : ∀ {A' : Around} {E : Value → Shared → Prop} {Q : Value → Shared → Prop}, Q (.ref hp.objs.size) ⟨hp.push o, g, d, tk, os⟩ → wpAny (model prog w) A' (pyIter v) Q E ⟨hp, g, d, tk, os⟩ :=
      fun q => B.iter prog w _ _ ⟨hp, g, d, tk, os⟩ _ h1 q
    wp_walk using q1
    refine wpAny_stack_any fun st => wpAny_pure ?_
    split
    · rename_i c _ _ _ _ _
      cases (c == Value.type "enumerate")
      · wp_walk using q1
        exact ⟨_, rfl, h⟩
      · wp_walk using q1
        exact ⟨_, rfl, h⟩
    · wp_walk using q1
      exact ⟨_, rfl, h⟩
theorem call_enumerate_1B {v : Value} {o : Obj} {H : Heap → Prop} {Q : Value → Shared → Prop} (B : Begins v o H) (h1 : H s.heap)
    (h : ∀ h', IsEnum h' (s.heap.objs.size + 1) s.heap.objs.size 0 .none → h'.get? s.heap.objs.size = some o → h'.objs.size = s.heap.objs.size + 2 →
      (∀ b o, s.heap.get? b = some o → h'.get? b = some o) → Q (.ref (s.heap.objs.size + 1)) { s with heap := h' }) :
    wpAny (model prog w) A (call (.type "enumerate") [v]) Q E s := by
  refine callType_new F.called_enumerate (by decide) (F.typeCall_enumerate_1 _) (F.newCall_enumerate_1 _) (fun obj => F.args_object_init_2 obj _) F.entry_enumerate_new
    (meets_enumerate_new1 B) ⟨h1, ?_⟩
  have hz : (s.heap.push o).objs.size = s.heap.objs.size + 1 := Heap.size_push ..
  show _ ∧ _
  rw [hz]
  have he : IsEnum ((s.heap.push o).push { cls := .type "enumerate", data := .fields #[.none, .bool false, .ref s.heap.objs.size, rawInt 0, .none, .none] }) (s.heap.objs.size + 1) s.heap.objs.size 0 .none := by
    have := Heap.get?_push_size (s.heap.push o) (o := { cls := .type "enumerate", data := .fields #[.none, .bool false, .ref s.heap.objs.size, rawInt 0, .none, .none] }) rfl
    rw [hz] at this; exact this
  refine ⟨⟨_, he, rfl⟩, h _ he (Heap.get?_push_of_some _ (Heap.get?_push_size _ B.free)) (by rw [Heap.size_push, hz]) fun b o x => Heap.get?_push_of_some _ (Heap.get?_push_of_some _ x)⟩
end
theorem turn_enumT {P : Program} {w : World} {K : PySem.W.Frag} {elts : List Expr} {kk : Nat} {tpos : Pos} (a e it : Addr) :
    Turn P w K (.Tuple elts kk tpos) (IteT K a) [e, it] e (fun i h => (∃ old, IsEnum h e it ((i : Nat) : Int) old) ∧ h.IsTupleIter it a i ∧ e ≠ it ∧ a ≠ it ∧ a ≠ e) where
  mem := by simp
  obj := fun i h st b hb => by
    obtain ⟨⟨old, he⟩, ⟨o, ho, hc, hd⟩, _⟩ := st
    have e' : b = e ∨ b = it := by simpa using hb
    rcases e' with z | z
    · rw [z]; exact ⟨_, he, fun v q => nomatch q⟩
    · rw [z]; exact ⟨o, ho, fun v q => by rw [hd] at q; cases q⟩
  keep := fun i h h' st k => let ⟨⟨old, he⟩, hi, hne⟩ := st; ⟨⟨old, k e (by simp) _ he⟩, hi.at fun o q => k it (by simp) o q, hne⟩
  item := by
    intro X hP hw hK hc i pins s σ H E I hf st hg
    subst hP hw hK
    obtain ⟨⟨old, he⟩, hit, hne, hai, hae⟩ := st
    obtain ⟨xs, x, hq, hx⟩ := hg
    obtain ⟨its, rv, p, hz⟩ := I.tuple hq
    obtain ⟨u, hu, ru⟩ := rv.get hx
    have hel : e < s.heap.objs.size := Heap.lt_size he
    have hil : it < s.heap.objs.size := by obtain ⟨_, q, _⟩ := hit; exact Heap.lt_size q
    have p : s.heap.IsTuple a its.toArray := p
    have D := Draws.tuple (prog := X.prog) (w := X.w) (A := X.A.in1) (I.ok.hd hc) it a hai its.toArray
    have hlt : i < its.toArray.size := by
      have := (List.getElem?_eq_some_iff.mp hu).1
      rw [List.size_toArray]
      exact this
    refine wpAny_pyNext_enum_itemC D he ⟨hit, p⟩ hlt hne (by simp [hne, Ne.symm hae]) fun x' h' tk hx' ho hst' hT hsz hk => ?_
    have ex : x' = u := by
      have h2 : its.toArray[i]? = some u := by simpa using hu
      rw [hx'] at h2
      exact Option.some.inj h2
    subst ex
    refine ⟨_, rfl, wpAny_letOwnedTupleGo_enum (s := { s with heap := h', toks := tk + 1 }) ho fun h'' he' sb => ?_⟩
    have hT2 : h''.get? s.heap.objs.size = some { cls := .type "tuple", data := .seq #[.int i tk, x'] } := (sb.2 _ (Nat.ne_of_gt hel)).trans hT
    have new : ObjOk X.prog X.w (upd H s.heap.objs.size (.tup [.int (i : Nat), x])) h'' s.heap.objs.size (.tup [.int (i : Nat), x]) :=
      ⟨by show 2 ≤ sizeLine; decide, [.int i tk, x'], .cons ⟨_, rfl⟩ (.cons ru .nil), ⟨_, hT2, rfl, _, rfl⟩⟩
    have I1 : Inv X pins σ (upd H s.heap.objs.size (.tup [.int (i : Nat), x])) { s with heap := h'', toks := tk + 1 } :=
      I.turnedNew (ch := [e, it]) (fun b ob hb q => (sb.2 b (fun z => hb (by simp [z]))).trans (hk b ob (fun z => hb (by simp [z])) (fun z => hb (by simp [z])) q)) hf (Nat.le_refl _) new
    refine ⟨.ref s.heap.objs.size, _, I1, rfl, ⟨_, x, rfl, I.hok.fresh (Nat.le_refl _), rfl, fun ys hy => by rw [I.tuple_inj hy hq]; exact hx⟩, ⟨⟨x', ?_⟩, hst'.1.at fun o q => (sb.2 it (Ne.symm hne)).trans q, hne, hai, hae⟩, fun b hb => ?_⟩
    · have e1 : ((i + 1 : Nat) : Int) = (i : Int) + 1 := by omega
      rw [e1]; exact he'
    · have hb' : b < s.heap.objs.size := by
        have e' : b = e ∨ b = it := by simpa using hb
        rcases e' with z | z
        · rw [z]; exact hel
        · rw [z]; exact hil
      rw [upd_ne (Nat.ne_of_lt hb')]
      exact (hf b hb).1
  done := by
    intro X hP hw hK hc i pins s σ H E I hf st hg
    subst hP hw hK
    obtain ⟨⟨old, he⟩, hit, hne, hai, hae⟩ := st
    obtain ⟨xs, hq, hx⟩ := hg
    obtain ⟨its, rv, p, hz⟩ := I.tuple hq
    obtain ⟨f0, f1, f2, f3, f4, f5⟩ := hf it (by simp)
    have hl := rv.length
    have p : s.heap.IsTuple a its.toArray := p
    have hT : s.TypeIs (.ref e) "enumerate" := ⟨_, he, rfl⟩
    unfold pyNext
    refine wpAny_bind (wpAny_attempt (wpAny_callSpecial?_slot (name := Str.ofString "__next__") hT F.slot_enumerate_next
      (wpAny_call_entry F.slot_enumerate_next hT F.entry_enumerate_next ?_ (F.args_enumerate_next_1 _))))
    show wpAny _ _ (field (.ref e) 2 >>= _) _ _ _
    refine wpAny_bind (wpAny_field he rfl (x := .ref it) rfl ?_)
    refine wpAny_bind (wpAny_nextOf_tuple_end (I.ok.hd hc) hit p (by simp; omega) fun h' x eb hx' => ?_)
    obtain ⟨o, ho, hc⟩ := hx'
    refine wpAny_bind (wpAny_isInstance (T := "StopIteration") (b := true) ⟨o, ho, hc⟩ isSubtype_stop ?_)
    exact wpAny_pure ⟨rfl, I.turned (t' := s.toks) (fun b o hb q => eb b o hb q) f0 f1 f3 f4 f5⟩
  self := fun A i s Q E st h => let ⟨⟨_, he⟩, _⟩ := st; wpAny_pyIter_enum he h
/-- enumerate(xs), of a list or a tuple -/
def enumD (ds : List D) : Option (List D) := (pures ds).map fun xs => (List.range xs.length).zipWith (fun (i : Nat) x => D.d (.tuple [.int i, x])) xs
def dEnum (t : TAd) : TId := fun e st R => t e st fun ds st1 => match ds with
  | [.d (.tuple xs)] => R ⟨(List.range xs.length).zipWith (fun (i : Nat) x => D.d (.tuple [.int i, x])) xs, none⟩ st1
  | [.d (.list xs)] => R ⟨(List.range xs.length).zipWith (fun (i : Nat) x => D.d (.tuple [.int i, x])) xs, none⟩ st1
  | [.own a] => ∃ xs : List PyData, st1 a = some (xs.map D.d) ∧ R ⟨(List.range xs.length).zipWith (fun (i : Nat) x => D.d (.tuple [.int i, x])) xs, some (a, xs.map D.d)⟩ st1
  | _ => False
theorem enum_get {xs : List PyData} {i : Nat} {d : D} (h : ((List.range xs.length).zipWith (fun (i : Nat) x => D.d (.tuple [.int i, x])) xs)[i]? = some d) : ∃ x, xs[i]? = some x ∧ d = .d (.tuple [.int i, x]) := by
  rw [List.getElem?_zipWith] at h
  cases e : xs[i]? with
  | none =>
    rw [e] at h
    cases q : (List.range xs.length)[i]? <;> (rw [q] at h; cases h)
  | some x =>
    have hi : i < xs.length := (List.getElem?_eq_some_iff.mp e).1
    rw [e, List.getElem?_range hi] at h
    exact ⟨x, rfl, (Option.some.inj h).symm⟩
theorem enum_len {xs : List PyData} : ((List.range xs.length).zipWith (fun (i : Nat) x => D.d (.tuple [.int i, x])) xs).length = xs.length := by
  rw [List.length_zipWith, List.length_range, Nat.min_self]
section
variable {K : PySem.W.Frag} {F0 : Sto} {H0 : Hp} {a : Addr}
theorem pair_new {F : Sto} {H : Hp} (S : SR K F H) {T : Addr} {i : Nat} {v : V} {x : PyData} (hT : H T = none) (r : Dv K F H v x) : Fr F H F (upd H T (.tup [.int (i : Nat), v])) ∧ SR K F (upd H T (.tup [.int (i : Nat), v])) ∧ DvD K F (upd H T (.tup [.int (i : Nat), v])) (.ref T) (.d (.tuple [.int i, x])) :=
  ⟨fr_new hT, sr_new S hT, .d (.tup (.inl (.inl upd_same)) (.cons (.int _) (.cons (r.mono (fr_new hT) S) .nil)))⟩
theorem itok_enT {vs : List V} {xs : List PyData} (h : SqT K H0 a vs) (r : Dvs K F0 H0 vs xs) (S0 : SR K F0 H0) : ItOk K F0 H0 (IteT K a) ⟨(List.range xs.length).zipWith (fun (i : Nat) x => D.d (.tuple [.int i, x])) xs, none⟩ := fun i F H fr S _ => by
  have h' := sqT_mono fr S0 h
  have r' := r.mono fr S0
  refine ⟨fun d e => ?_, fun z => ⟨vs, h', by
    have z' : _ ≤ i := z
    rw [enum_len] at z'
    rw [r'.length]
    exact z'⟩⟩
  obtain ⟨x, ex, rfl⟩ := enum_get e
  obtain ⟨v, e1, r1⟩ := r'.get ex
  refine ⟨⟨vs, v, h', e1⟩, fun y H' ⟨T, w, ey, hT, eh, hy⟩ => ?_⟩
  subst ey eh
  have e2 := hy vs h'
  rw [e1] at e2
  cases e2
  exact pair_new S hT r1
theorem itok_enL {vs : List V} {xs : List PyData} (h : H0 a = some (.lst vs)) (f : F0 a = none) (r : Dvs K F0 H0 vs xs) (S0 : SR K F0 H0) : ItOk K F0 H0 (Ite K a) ⟨(List.range xs.length).zipWith (fun (i : Nat) x => D.d (.tuple [.int i, x])) xs, none⟩ := fun i F H fr S _ => by
  have h' : SqL K H a vs := .inl (.inl (fr a _ h f).1)
  have r' := r.mono fr S0
  refine ⟨fun d e => ?_, fun z => ⟨vs, h', by
    have z' : _ ≤ i := z
    rw [enum_len] at z'
    rw [r'.length]
    exact z'⟩⟩
  obtain ⟨x, ex, rfl⟩ := enum_get e
  obtain ⟨v, e1, r1⟩ := r'.get ex
  refine ⟨⟨vs, v, h', e1⟩, fun y H' ⟨T, w, ey, hT, eh, hy⟩ => ?_⟩
  subst ey eh
  have e2 := hy vs h'
  rw [e1] at e2
  cases e2
  exact pair_new S hT r1
theorem itok_enO {xs : List PyData} : ItOk K F0 H0 (Ite K a) ⟨(List.range xs.length).zipWith (fun (i : Nat) x => D.d (.tuple [.int i, x])) xs, some (a, xs.map D.d)⟩ := fun i F H fr S at_ => by
  obtain ⟨vs, h, r⟩ := S a _ (at_ a _ rfl)
  have h' : SqL K H a vs := .inl (.inl h)
  have r' := Dvs.of r
  refine ⟨fun d e => ?_, fun z => ⟨vs, h', by
    have z' : _ ≤ i := z
    rw [enum_len] at z'
    rw [r'.length]
    exact z'⟩⟩
  obtain ⟨x, ex, rfl⟩ := enum_get e
  obtain ⟨v, e1, r1⟩ := r'.get ex
  refine ⟨⟨vs, v, h', e1⟩, fun y H' ⟨T, w, ey, hT, eh, hy⟩ => ?_⟩
  subst ey eh
  have e2 := hy vs h'
  rw [e1] at e2
  cases e2
  exact pair_new S hT r1
end
theorem pdi_enum {X : Cx} {e : Expr} {ta : TAd} {p pos tpos : Pos} {elts : List Expr} {kk : Nat} (hg : Gl X "enumerate") (hm : X.mg "enumerate" = none) (ha : PDA X [e] ta) (hs : starEach [e] X.env = [(false, eval e X.env)] := by rfl) :
    PDI X (.Tuple elts kk tpos) (.Call (.Name "enumerate" p) [e] [] pos) (dEnum ta) := by
  refine ⟨fun pins s σ H R I ⟨en, st, hid, Rd, re, S, h, k⟩ => ?_⟩
  refine Call_ (ld_blt I hg hm boot_enumerate (PyProof.Rows.callWith_type1 (thn (ha.run pos pins s σ H (fun vs H1 => ∃ a, vs = [.ref a] ∧ ((∃ xs, SqL X.K H1 a xs) ∧ R (Ite X.K a) H1 ∨ (∃ xs, SqT X.K H1 a xs) ∧ R (IteT X.K a) H1)) I ⟨en, st, hid, _, re, S, h, fun vs H1 ds st1 F1 S1 r q => ?_⟩) fun us s1 ⟨vs, H1, I1, r1, a, ex, q1⟩ => ?_) hs rfl))
  · split at q
    · obtain ⟨v, rfl, r1⟩ := DvsD.one r
      obtain ⟨a, vs, rfl, h1, r2⟩ := tup_at r1
      exact ⟨a, rfl, .inr ⟨⟨vs, h1⟩, k _ H1 _ st1 F1 S1 (itok_enT h1 r2 S1.sr) (fun a ds z => nomatch z) q⟩⟩
    · obtain ⟨v, rfl, r1⟩ := DvsD.one r
      cases r1 with
      | d r1 =>
        cases r1 with
        | lst h f r => exact ⟨_, rfl, .inl ⟨⟨_, .inl (.inl h)⟩, k _ H1 _ st1 F1 S1 (itok_enL h f r S1.sr) (fun a ds z => nomatch z) q⟩⟩
    · obtain ⟨v, rfl, r1⟩ := DvsD.one r
      cases r1 with
      | own _ =>
        obtain ⟨xs, e1, q⟩ := q
        obtain ⟨vs, h1, r2⟩ := S1.at_ e1
        exact ⟨_, rfl, .inl ⟨⟨_, .inl (.inl h1)⟩, k _ H1 _ st1 F1 S1 itok_enO (fun b es z => by
          cases z
          exact e1) q⟩⟩
    · exact q.elim
  · subst ex
    cases r1 with
    | cons r rr =>
      cases rr
      cases r
      have kp2 : ∀ {h' : Heap}, (∀ b o, s1.heap.get? b = some o → h'.get? b = some o) → Inv X pins σ H1 { s1 with heap := h' } := fun hk => I1.kept (t' := s1.toks) hk
      have fpo : ∀ b ∈ [s1.heap.objs.size + 1, s1.heap.objs.size], FpOk X pins H1 b := fun b hb => by
        have e' : b = s1.heap.objs.size + 1 ∨ b = s1.heap.objs.size := by simpa using hb
        have hle : s1.heap.objs.size ≤ b := by
          rcases e' with z | z
          · rw [z]; exact Nat.le_add_right _ _
          · rw [z]; exact Nat.le_refl _
        exact I1.fpOk hle (I1.hok.fresh hle)
      rcases q1 with ⟨⟨xs, hq⟩, q⟩ | ⟨⟨xs, hq⟩, q⟩
      · obtain ⟨its, rv, p', hz⟩ := I1.list hq
        refine call_enumerate_list p'.isList fun h' he hit hsz hk => wpAny_pyIter_enum he ?_
        exact ⟨s1.heap.objs.size + 1, [s1.heap.objs.size + 1, s1.heap.objs.size], _, _, H1, rfl, kp2 hk, turn_enum a (s1.heap.objs.size + 1) s1.heap.objs.size, ⟨⟨.none, he⟩, hit, Nat.succ_ne_self _⟩, fpo, q⟩
      · obtain ⟨its, rv, p', hz⟩ := I1.tuple hq
        have p' : s1.heap.IsTuple a its.toArray := p'
        have hal : a < s1.heap.objs.size := by
          obtain ⟨o, ho, _⟩ := p'
          exact Heap.lt_size ho
        refine call_enumerate_1B (begins_tuple a its.toArray) p' fun h' he hit hsz hk => wpAny_pyIter_enum he ?_
        exact ⟨s1.heap.objs.size + 1, [s1.heap.objs.size + 1, s1.heap.objs.size], _, _, H1, rfl, kp2 hk, turn_enumT a (s1.heap.objs.size + 1) s1.heap.objs.size, ⟨⟨.none, he⟩, ⟨_, hit, rfl, rfl⟩, Nat.succ_ne_self _, Nat.ne_of_lt hal, Nat.ne_of_lt (Nat.lt_succ_of_lt hal)⟩, fpo, q⟩
end DL
namespace DL
open PySem PySem.Spec PyProof.Rows L2
/-! ### list comprehensions, targets of any form -/
inductive Pat where
  | nm (i : Nat)
  | tup (ps : List Pat)
mutual
def gP (K : PySem.W.Frag) : Pat → TG
  | .nm i => gName i
  | .tup ps => gTup K ps.length (gPs K ps)
def gPs (K : PySem.W.Frag) : List Pat → TGs
  | [] => gNil
  | p :: ps => gCons (gP K p) (gPs K ps)
end
mutual
def setP : Pat → PyData → Ed → Option Ed
  | .nm i, x, e => some (e.set i (some (.d x)))
  | .tup ps, .tuple xs, e => setPs ps xs e
  | .tup _, _, _ => none
def setPs : List Pat → List PyData → Ed → Option Ed
  | [], [], e => some e
  | p :: ps, x :: xs, e => (setP p x e).bind (setPs ps xs)
  | _, _, _ => none
end
mutual
def slots : Pat → List Nat
  | .nm i => [i]
  | .tup ps => slotsAll ps
def slotsAll : List Pat → List Nat
  | [] => []
  | p :: ps => slots p ++ slotsAll ps
end
structure REo (K : PySem.W.Frag) (st : Sto) (H : Hp) (P : Nat → Prop) (σ : L2.St) (e : Ed) : Prop where
  len : σ.length = e.length
  at_ : ∀ (i : Nat) (d : D), ¬ P i → e[i]? = some (some d) → ∃ v, σ[i]? = some (some v) ∧ DvD K st H v d
theorem wipe_at {σ : L2.St} {j : Nat} : ∀ {vs : List Nat}, j ∉ vs → (wipe σ vs)[j]? = σ[j]?
  | [], _ => rfl
  | v :: vs, h => by
    rw [List.mem_cons, not_or] at h
    unfold wipe
    rw [List.getElem?_set_ne (Ne.symm h.1), wipe_at h.2]
theorem wipe_in {σ : L2.St} {j : Nat} : ∀ {vs : List Nat}, j ∈ vs → j < σ.length → (wipe σ vs)[j]? = some none
  | v :: vs, h, hl => by
    unfold wipe
    by_cases e : v = j
    · subst e
      rw [List.getElem?_set_self (by rw [wipe_length]; exact hl)]
    · rw [List.getElem?_set_ne e]
      rcases List.mem_cons.mp h with h | h
      · exact absurd h.symm e
      · exact wipe_in h hl
theorem wipe_set {σ : L2.St} {i : Nat} {x : Option V} {vs : List Nat} (h : i ∈ vs) : wipe (σ.set i x) vs = wipe σ vs := by
  refine List.ext_getElem? fun j => ?_
  by_cases hj : j ∈ vs
  · by_cases hl : j < σ.length
    · rw [wipe_in hj hl, wipe_in hj (by rw [List.length_set]; exact hl)]
    · rw [List.getElem?_eq_none (by rw [wipe_length, List.length_set]; omega), List.getElem?_eq_none (by rw [wipe_length]; omega)]
  · have ne : i ≠ j := fun z => hj (z ▸ h)
    rw [wipe_at hj, wipe_at hj, List.getElem?_set_ne ne]
theorem RE.off {K : PySem.W.Frag} {st : Sto} {H : Hp} {σ : L2.St} {e : Ed} (r : RE K st H σ e) (vs : List Nat) : REo K st H (· ∈ vs) (wipe σ vs) e :=
  ⟨by rw [wipe_length]; exact r.len, fun i d hi h => by
    rw [wipe_at hi]
    exact r.at_ i d h⟩
theorem REo.on {K : PySem.W.Frag} {st : Sto} {H : Hp} {P : Nat → Prop} {σ : L2.St} {e : Ed} (r : REo K st H P σ e) (h : ∀ i, ¬ P i) : RE K st H σ e := ⟨r.len, fun i d q => r.at_ i d (h i) q⟩
theorem REo.imp {K : PySem.W.Frag} {st : Sto} {H : Hp} {P P' : Nat → Prop} {σ : L2.St} {e : Ed} (r : REo K st H P σ e) (h : ∀ i, P i → P' i) : REo K st H P' σ e := ⟨r.len, fun i d hi q => r.at_ i d (fun z => hi (h i z)) q⟩
theorem REo.set {K : PySem.W.Frag} {st : Sto} {H : Hp} {P : Nat → Prop} {σ : L2.St} {e : Ed} (r : REo K st H P σ e) {i : Nat} {v : V} {d : D} (h : DvD K st H v d) : REo K st H (fun j => P j ∧ j ≠ i) (σ.set i (some v)) (e.set i (some d)) := by
  refine ⟨by rw [List.length_set, List.length_set]; exact r.len, fun j x hp hj => ?_⟩
  by_cases hi : i = j
  · subst hi
    rw [List.getElem?_set] at hj ⊢
    rw [if_pos rfl] at hj ⊢
    rw [r.len]
    split at hj
    · rename_i hl
      rw [if_pos hl]
      cases Option.some.inj (Option.some.inj hj)
      exact ⟨v, rfl, h⟩
    · cases hj
  · rw [List.getElem?_set_ne hi] at hj ⊢
    exact r.at_ j x (fun z => hp ⟨z, fun w => hi w.symm⟩) hj
mutual
theorem gP_go {K : PySem.W.Frag} {st : Sto} {H : Hp} {vs : List Nat} : ∀ (p : Pat) {P : Nat → Prop} {σ : L2.St} {e e' : Ed} {v : V} {x : PyData} {Q : L2.St → Hp → Prop}, REo K st H P σ e → Dv K st H v x → setP p x e = some e' → (∀ i ∈ slots p, i ∈ vs) →
    (∀ σ2, REo K st H (fun j => P j ∧ j ∉ slots p) σ2 e' → wipe σ2 vs = wipe σ vs → Q σ2 H) → gP K p v σ H Q
  | .nm i, P, σ, e, e', v, x, Q, r, h, q, hs, k => by
    unfold setP at q
    cases Option.some.inj q
    unfold gP
    exact k _ ((r.set (.d h)).imp fun j hj => ⟨hj.1, by simpa [slots] using hj.2⟩) (wipe_set (hs i (by simp [slots])))
  | .tup ps, P, σ, e, e', v, x, Q, r, h, q, hs, k => by
    cases h with
    | tup h1 r1 =>
      unfold setP at q
      unfold gP
      refine ⟨_, _, rfl, h1, ?_, gPs_go ps r r1 q (by simpa [slots] using hs) (by simpa [slots] using k)⟩
      rw [r1.length]
      exact setPs_len ps q
    | _ => cases q
theorem setPs_len : ∀ (ps : List Pat) {xs : List PyData} {e e' : Ed}, setPs ps xs e = some e' → xs.length = ps.length
  | [], [], _, _, _ => rfl
  | [], _ :: _, _, _, q => by cases q
  | p :: ps, [], _, _, q => by cases q
  | p :: ps, x :: xs, e, e', q => by
    unfold setPs at q
    obtain ⟨e1, h1, h2⟩ := Option.bind_eq_some_iff.mp q
    rw [List.length_cons, List.length_cons, setPs_len ps h2]
theorem gPs_go {K : PySem.W.Frag} {st : Sto} {H : Hp} {vs : List Nat} : ∀ (ps : List Pat) {P : Nat → Prop} {σ : L2.St} {e e' : Ed} {ws : List V} {xs : List PyData} {Q : L2.St → Hp → Prop}, REo K st H P σ e → Dvs K st H ws xs → setPs ps xs e = some e' → (∀ i ∈ slotsAll ps, i ∈ vs) →
    (∀ σ2, REo K st H (fun j => P j ∧ j ∉ slotsAll ps) σ2 e' → wipe σ2 vs = wipe σ vs → Q σ2 H) → gPs K ps ws σ H Q
  | [], P, σ, e, e', ws, xs, Q, r, h, q, hs, k => by
    cases h with
    | nil =>
      unfold setPs at q
      cases Option.some.inj q
      exact ⟨rfl, k σ (r.imp fun j hj => ⟨hj, by simp [slotsAll]⟩) rfl⟩
    | cons _ _ => cases q
  | p :: ps, P, σ, e, e', ws, xs, Q, r, h, q, hs, k => by
    cases h with
    | nil => cases q
    | cons h t =>
      unfold setPs at q
      obtain ⟨e1, h1, h2⟩ := Option.bind_eq_some_iff.mp q
      unfold gPs
      refine ⟨_, _, rfl, gP_go p r h h1 (fun i hi => hs i (by simp [slotsAll, hi])) fun σ2 r2 w2 => ?_⟩
      exact gPs_go ps r2 t h2 (fun i hi => hs i (by simp [slotsAll, hi])) fun σ3 r3 w3 => k σ3 (r3.imp fun j ⟨⟨h1, h2⟩, h3⟩ => ⟨h1, by simp [slotsAll, h2, h3]⟩) (w3.trans w2)
end
def dLcP (M : List D → Sto → Kd → Prop) (ti : TId) (p : Pat) (tt : TTd) (te : TEd) : TEd := fun e st Q => ti e st fun it st1 => ∃ W : Nat → List D → Sto → Prop, W 0 [] st1 ∧ ∀ j acc st2, W j acc st2 → it.at st2 ∧ (it.xs.length ≤ j → M acc st2 Q) ∧
  ∀ d, it.xs[j]? = some d → ∃ x e', d = .d x ∧ setP p x e = some e' ∧ tt e' st2 fun b st3 => if b = true then te e' st3 fun y st4 => acc.length < sizeLine ∧ W (j + 1) (acc ++ [y]) st4 else W (j + 1) acc st3
theorem pd_lcP {X : Cx} {M : List D → Sto → Kd → Prop} (hM : ∀ ds st Q, M ds st Q → mkL ds st Q) {elt iter tg : Expr} {ifs : List Expr} {scope : Scope} {pos : Pos} {ti : TId} {tt : TTd} {te : TEd} (p : Pat) (own : List (Str × Nat)) (ho : ∀ i, i ∈ own.map (·.2) ↔ i ∈ slots p) (hc : X.calm = true) (hN : X.N.Nodup) (hi : PDI X tg iter ti) (ok : BlkOk X.N X.env.scope scope own)
    (hg : ∀ (s : Shared) (H : Hp) (C : Addr) (cl : List (Str × Addr)) (fp : List Addr), PG (X.blk s H scope (compEnvC scope cl C X.env) fp) tg (gP X.K p))
    (ht : ∀ (s : Shared) (H : Hp) (C : Addr) (cl : List (Str × Addr)) (fp : List Addr), PDTs (X.blk s H scope (compEnvC scope cl C X.env) fp) ifs tt)
    (he : ∀ (s : Shared) (H : Hp) (C : Addr) (cl : List (Str × Addr)) (fp : List Addr), PD (X.blk s H scope (compEnvC scope cl C X.env) fp) elt te) (hs : ∀ x, foldedSetIterable iter X.env x = pure x := by intro _; rfl) :
    PD X (.ListComp elt [⟨tg, iter, ifs, 0⟩] scope pos) (dLcP M ti p tt te) :=
  PE.imp (pe_lc (own := own) (wi := upI X.K ti) (g := gP X.K p) (tt := upT X.K tt) (te := up X.K te) hc hN hi ok hg ht he hs) fun σ H Q ⟨e, st, hid, Qd, re, S, h, k⟩ => by
    refine ⟨e, st, hid, _, re, S, h, fun J H1 it st1 F1 S1 ok1 at1 ⟨W, w0, turn⟩ p' hp => ?_⟩
    have n1 := jn_free (S1.sr.free0 hp)
    refine ⟨fun j m H2 => m = it.xs.length - j ∧ ∃ acc st2, W j acc st2 ∧ Sx X.K (put st2 p' acc) hid H2 ∧ st2 p' = none ∧ Fr (jn (put st1 p' []) hid) (upd H1 p' (.lst [])) (jn (put st2 p' acc) hid) H2, ⟨it.xs.length, by simp, [], st1, w0, S1.own hp .nil, n1.1, Fr.refl _ _⟩, ?_⟩
    rintro j m H2 ⟨rfl, acc, st2, w2, S2, n2, F2⟩
    obtain ⟨at2, done, go⟩ := turn j acc st2 w2
    have Sh := S2.hide n2
    have eqF : jn st2 (put hid p' acc) = jn (put st2 p' acc) hid := jn_swap n2
    have F12 : Fr (jn st1 hid) H1 (jn (put st2 p' acc) hid) H2 := Fr.trans (fx_own hp) F2
    have F02 : Fr (jn st hid) H (jn (put st2 p' acc) hid) H2 := Fr.trans F1 F12
    have atF : it.at (jn (put st2 p' acc) hid) := fun a ds z => by
      have e1 := at2 a ds z
      have ne : a ≠ p' := fun z' => by
        rw [z', n2] at e1
        cases e1
      exact jn_some (by rw [put_ne ne]; exact e1)
    have It := ok1 j _ H2 F12 S2.sr atF
    by_cases hj : it.xs.length ≤ j
    · refine .inl ⟨It.2 hj, ?_⟩
      obtain ⟨vs, hv, rv⟩ := S2.at_ put_same
      rcases hM _ _ _ (done hj) with ⟨xs, ep, q⟩ | q
      · have ea := pures_eq ep
        subst ea
        obtain ⟨Sc, Fc, fc⟩ := S2.frz put_same
        have ec : cut (put st2 p' (xs.map D.d)) p' = st2 := by
          funext b
          by_cases eb : b = p'
          · rw [eb, cut_same, n2]
          · rw [cut_ne eb, put_ne eb]
        rw [ec] at Sc Fc fc
        exact k _ H2 _ st2 (Fr.trans F02 Fc) Sc (.d (.lst hv fc ((Dvs.of rv).mono Fc S2.sr))) q
      · exact k _ H2 _ _ F02 S2 (.own p') (q p' n2)
    · have hlt : j < it.xs.length := Nat.lt_of_not_le hj
      have ed : it.xs[j]? = some it.xs[j] := List.getElem?_eq_getElem hlt
      obtain ⟨g1, g2⟩ := It.1 _ ed
      refine .inr ⟨g1, fun H' => ∃ acc' st', W (j + 1) acc' st' ∧ Sx X.K (put st' p' acc') hid H' ∧ st' p' = none ∧ Fr (jn (put st1 p' []) hid) (upd H1 p' (.lst [])) (jn (put st' p' acc') hid) H', fun H' ⟨acc', st', h1, h2, h3, h4⟩ => ⟨it.xs.length - (j + 1), by omega, rfl, acc', st', h1, h2, h3, h4⟩, fun x H3 hy => ?_⟩
      obtain ⟨F23, S3r, rx⟩ := g2 x H3 hy
      obtain ⟨xd, e', exd, he', go2⟩ := go _ ed
      rw [exd] at rx
      cases rx with
      | d rx =>
      have S3 : Sx X.K (put st2 p' acc) hid H3 := ⟨S2.dj, S3r⟩
      have S3h := S3.hide n2
      have F03 := Fr.trans F02 F23
      have reo : REo X.K (jn (put st2 p' acc) hid) H3 (· ∈ own.map (·.2)) (wipe σ (own.map (·.2))) e := (re.mono F03 S.sr).off _
      refine gP_go p reo rx he' (fun i hi => (ho i).mpr hi) fun σ2 r2 w2 => ?_
      have reX : RE X.K (jn st2 (put hid p' acc)) H3 σ2 e' := by
        rw [eqF]
        exact r2.on fun i hi => hi.2 ((ho i).mp hi.1)
      have ww : wipe (wipe σ (own.map (·.2))) (own.map (·.2)) = wipe σ (own.map (·.2)) := by
        refine List.ext_getElem? fun i => ?_
        by_cases hi : i ∈ own.map (·.2)
        · by_cases hl : i < σ.length
          · rw [wipe_in hi (by rw [wipe_length]; exact hl), wipe_in hi hl]
          · rw [List.getElem?_eq_none (by rw [wipe_length, wipe_length]; omega), List.getElem?_eq_none (by rw [wipe_length]; omega)]
        · rw [wipe_at hi]
      refine ⟨w2.trans ww, ?_⟩
      refine ⟨_, st2, put hid p' acc, _, reX, S3h, go2, fun b H4 st4 F4 S4 q4 => ?_⟩
      have hn : hid p' = none := n1.2
      have F3X : Fr (jn (put st1 p' []) hid) (upd H1 p' (.lst [])) (jn st2 (put hid p' acc)) H3 := by
        rw [eqF]
        exact Fr.trans F2 F23
      cases b with
      | false =>
        rw [if_neg Bool.false_ne_true] at q4
        refine iteF ?_
        obtain ⟨S4', n4⟩ := S4.shown hn
        refine ⟨acc, st4, q4, S4', n4, ?_⟩
        rw [← jn_swap n4]
        exact Fr.trans F3X F4
      | true =>
        rw [if_pos rfl] at q4
        refine iteT ?_
        refine ⟨_, st4, put hid p' acc, _, reX.mono F4 S3h.sr, S4, q4, fun v H5 d st5 F5 S5 r5 ⟨hz, w5⟩ => ?_⟩
        obtain ⟨S5', n5⟩ := S5.shown hn
        obtain ⟨vs, hv, rv⟩ := S5'.at_ put_same
        rw [jn_swap n5] at r5
        refine ⟨vs, hv, by rw [Paired.length rv]; exact hz, acc ++ [d], st5, w5, ?_, n5, ?_⟩
        · have := S5'.store (es := acc ++ [d]) put_same (DvsD.snoc rv r5)
          have ee : put (put st5 p' acc) p' (acc ++ [d]) = put st5 p' (acc ++ [d]) := by
            funext b
            by_cases eb : b = p'
            · rw [eb, put_same, put_same]
            · rw [put_ne eb, put_ne eb, put_ne eb]
          rw [ee] at this
          exact this
        · have Fa : Fr (jn (put st1 p' []) hid) (upd H1 p' (.lst [])) (jn (put st5 p' acc) hid) H5 := by
            rw [← jn_swap n5]
            exact Fr.trans F3X (Fr.trans F4 F5)
          intro b o hb hf
          have ne : b ≠ p' := fun z => by
            rw [z, jn_some put_same] at hf
            cases hf
          obtain ⟨z1, z2⟩ := Fa b o hb hf
          refine ⟨by rw [upd_ne ne]; exact z1, ?_⟩
          unfold jn at z2 ⊢
          rw [put_ne ne] at z2 ⊢
          exact z2
end DL
namespace DL
open PySem PySem.Spec PyProof.Rows L2
/-! ### sorted(xs) -/
def sortD (xs : List PyData) : List PyData := xs.mergeSort (PySem.W.dataLe false _root_.id)
mutual
theorem alike_noDict : ∀ (x : PyData), PySem.W.alike x x = true → x.hasDict = false
  | .none, _ => rfl
  | .bool _, _ => rfl
  | .int _, _ => rfl
  | .str _, _ => rfl
  | .list xs, h => by
    unfold PyData.hasDict
    exact alikeAll_noDict xs (by simpa [PySem.W.alike] using h)
  | .tuple xs, h => by
    unfold PyData.hasDict
    exact alikeAll_noDict xs (by simpa [PySem.W.alike] using h)
  | .dict _, h => by simp [PySem.W.alike] at h
theorem alikeAll_noDict : ∀ (xs : List PyData), PySem.W.alikeAll xs xs = true → PyData.hasDictAll xs = false
  | [], _ => by simp [PyData.hasDictAll]
  | x :: xs, h => by
    rw [PySem.W.alikeAll, Bool.and_eq_true] at h
    rw [PyData.hasDictAll, alike_noDict x h.1, alikeAll_noDict xs h.2]
    rfl
end
def cSorted : RCd := fun ds st Q => match ds with
  | [x] => ∃ xs : List PyData, lstOf x st = some (xs.map D.d) ∧ PySem.W.AllAlike xs ∧ PySem.W.Sortable xs ∧ (∀ d ∈ xs, d.depth ≤ 64) ∧ mkL ((sortD xs).map D.d) st Q
  | _ => False
section
variable {X : Cx}
theorem each_of {K : PySem.W.Frag} {st : Sto} {H : Hp} : ∀ {vs : List V} {us : List Value} {xs : List PyData}, Vals vs us → Dvs K st H vs xs → PySem.W.EachIs (fun u x => ∃ v, RelV v u ∧ Dv K st H v x) us xs
  | _, _, _, .nil, .nil => .nil
  | _, _, _, .cons r t, .cons h t' => .cons ⟨_, r, h⟩ (each_of t t')
theorem of_each {K : PySem.W.Frag} {st : Sto} {H : Hp} : ∀ {us : List Value} {xs : List PyData}, PySem.W.EachIs (fun u x => ∃ v, RelV v u ∧ Dv K st H v x) us xs → ∃ vs, Vals vs us ∧ Dvs K st H vs xs
  | _, _, .nil => ⟨[], .nil, .nil⟩
  | _, _, .cons ⟨v, r, h⟩ t => by
    obtain ⟨vs, h1, h2⟩ := of_each t
    exact ⟨v :: vs, .cons r h1, .cons h h2⟩
theorem each_reads {pins : List (Addr × Obj)} {σ : L2.St} {st : Sto} {H : Hp} {s : Shared} (I : Inv X pins σ H s) : ∀ {vs : List V} {us : List Value} {xs : List PyData}, Vals vs us → Dvs X.K st H vs xs → (∀ x ∈ xs, x.hasDict = false) → PySem.W.EachIs (fun v b => ∃ as, Reads s.heap v (_root_.id b) as) us xs
  | _, _, _, .nil, .nil, _ => .nil
  | _, _, _, .cons r t, .cons h t', n => .cons (Dp.reads I _ _ _ (h.dp (n _ List.mem_cons_self)) r) (each_reads I t t' fun x hx => n x (List.mem_cons_of_mem _ hx))
theorem c_sorted (hu : X.A.units + 66 < cLine) : CallR X (.builtin "sorted") (upC X.K cSorted) := fun pins s σ H vs us Q I rx ⟨ds, st, hid, Qd, r, S, w, k⟩ => by
  unfold cSorted at w
  split at w
  · obtain ⟨v, rfl, r1⟩ := r.one
    obtain ⟨xs, e, hal, hk, hd, q⟩ := w
    obtain ⟨a, ws, rfl, h1, r2⟩ := lstOf_at r1 S e
    have r2 := Dvs.of r2
    obtain ⟨u, rfl, ru⟩ := vals1 rx
    cases ru
    obtain ⟨its, rv, hl, hz⟩ := I.list h1
    have nd : ∀ x ∈ xs, x.hasDict = false := fun x hx => alike_noDict x (hal x hx x hx)
    have ln : xs.length ≤ sizeLine := by
      rw [← r2.length]
      have := rv.length
      omega
    have hal' : PySem.W.AllAlike (xs.map _root_.id) := by rw [List.map_id]; exact hal
    have hk' : PySem.W.Sortable (xs.map _root_.id) := by rw [List.map_id]; exact hk
    refine PySem.W.sorted_data (R := fun u x => ∃ v, RelV v u ∧ Dv X.K (jn st hid) H v x) (enc := _root_.id) hl.isList (each_of rv r2) (each_reads I rv r2 nd) hal' hk' ln (fun b hb => ?_) fun out hlen ho => ?_
    · have := hd b hb
      show X.A.units + 2 + b.depth < cLine
      omega
    · obtain ⟨vs', h2, h3⟩ := of_each ho
      have hlen2 := h2.length
      have hn := I.hok.fresh (Nat.le_succ s.heap.objs.size)
      obtain ⟨n, hat⟩ := sortedAll_at s.heap its (List.toArray out)
      refine ⟨.ref (s.heap.objs.size + 1), upd H (s.heap.objs.size + 1) (.lst vs'), I.laid (t' := s.toks) (fun b o e => sortedAll_old e) (Nat.le_succ _) ⟨?_, out, n, h2, by simpa using hat⟩, rfl, mkL_go (ds := (sortD xs).map D.d) q S hn (Dvs.to h3) k⟩
      rw [h2.length, hlen]
      exact ln
  · exact w.elim
end
/-! ### // of any divisor but 0 -/
def CDivF (_ j : Int) : Prop := j ≠ 0 ∧ j.natAbs.log2 < 9000
def rDivF : R2d := rI2 CDivF fun i j => .int (Int.fdiv i j)
theorem o_divF {X : Cx} : OpR X (binaryOp .FloorDiv) (upR X.K rDivF) := up_int (opI fun i j _ _ _ _ _ hc q => floordiv_int hc.1 q (.inl (PyProof.noPylong_of_log2 hc.2)))
theorem bt_sorted : bootBuiltins "sorted" = some (.builtin "sorted") := by decide +kernel
theorem bt_sum : bootBuiltins "sum" = some (.builtin "sum") := by decide +kernel
theorem bt_any : bootBuiltins "any" = some (.builtin "any") := by decide +kernel
theorem u66 {k : Nat} {A : Around} (r : Room k A) : A.units + 66 < cLine := by
  have := r.un
  omega
end DL
namespace DL
open PySem PySem.Spec PyProof.Rows L2
section
variable {e : Ed} {st : Sto} {Q : Ed → Sto → Prop} {i j k l m o p : Nat} {a b c d f g h : PyData}
theorem tup2 : hTup 2 (hCons (hName i) (hCons (hName j) hNil)) (.d (.tuple [a, b])) e st Q = Q ((e.set i (some (.d a))).set j (some (.d b))) st := propext ⟨fun h => h.2.2, fun h => ⟨rfl, rfl, h⟩⟩
theorem tup3 : hTup 3 (hCons (hName i) (hCons (hName j) (hCons (hName k) hNil))) (.d (.tuple [a, b, c])) e st Q = Q (((e.set i (some (.d a))).set j (some (.d b))).set k (some (.d c))) st := propext ⟨fun h => h.2.2, fun h => ⟨rfl, rfl, h⟩⟩
theorem tup4 : hTup 4 (hCons (hName i) (hCons (hName j) (hCons (hName k) (hCons (hName l) hNil)))) (.d (.tuple [a, b, c, d])) e st Q = Q ((((e.set i (some (.d a))).set j (some (.d b))).set k (some (.d c))).set l (some (.d d))) st := propext ⟨fun h => h.2.2, fun h => ⟨rfl, rfl, h⟩⟩
theorem tup5 : hTup 5 (hCons (hName i) (hCons (hName j) (hCons (hName k) (hCons (hName l) (hCons (hName m) hNil))))) (.d (.tuple [a, b, c, d, f])) e st Q = Q (((((e.set i (some (.d a))).set j (some (.d b))).set k (some (.d c))).set l (some (.d d))).set m (some (.d f))) st := propext ⟨fun h => h.2.2, fun h => ⟨rfl, rfl, h⟩⟩
theorem tup22 : hTup 2 (hCons (hTup 2 (hCons (hName i) (hCons (hName j) hNil))) (hCons (hTup 2 (hCons (hName k) (hCons (hName l) hNil))) hNil)) (.d (.tuple [.tuple [a, b], .tuple [c, d]])) e st Q = Q ((((e.set i (some (.d a))).set j (some (.d b))).set k (some (.d c))).set l (some (.d d))) st := propext ⟨fun h => h.2.2.2.2.2.2, fun h => ⟨rfl, rfl, rfl, rfl, rfl, rfl, h⟩⟩
theorem tup12 : hTup 2 (hCons (hName i) (hCons (hTup 2 (hCons (hName k) (hCons (hName l) hNil))) hNil)) (.d (.tuple [a, .tuple [c, d]])) e st Q = Q (((e.set i (some (.d a))).set k (some (.d c))).set l (some (.d d))) st := propext ⟨fun h => h.2.2.2.2, fun h => ⟨rfl, rfl, rfl, rfl, h⟩⟩
end
/-! ### lists that are let go -/
def Sub (st' st : Sto) : Prop := ∀ a, st' a = st a ∨ st' a = none
theorem Sub.refl (st : Sto) : Sub st st := fun _ => .inl rfl
theorem Sx.sub {K : PySem.W.Frag} {st st' hid : Sto} {H : Hp} (S : Sx K st hid H) (h : Sub st' st) : Sx K st' hid H ∧ FrX st hid H st' H := by
  have F : FrX st hid H st' H := fun b o hb f => ⟨hb, by
    obtain ⟨h1, h2⟩ := jn_free f
    have e : st' b = none := by
      rcases h b with e | e
      · rw [e]
        exact h1
      · exact e
    rw [jn_none e]
    exact h2⟩
  refine ⟨⟨fun a n => ?_, fun a ds e => ?_⟩, F⟩
  · rcases h a with e | e
    · rw [e]
      exact S.dj a n
    · exact e
  · have e' : jn st hid a = some ds := by
      cases q : st' a with
      | some es =>
        rw [jn_some q] at e
        cases e
        rcases h a with z | z
        · exact jn_some (by rw [← z, q])
        · rw [z] at q
          cases q
      | none =>
        rw [jn_none q] at e
        have : st a = none := S.dj a (by rw [e]; exact fun z => nomatch z)
        rw [jn_none this]
        exact e
    obtain ⟨xs, h1, h2⟩ := S.sr a ds e'
    exact ⟨xs, h1, h2.mono F S.sr⟩
def RQ (Q : Kd) : Kd := fun d st => ∃ st', Sub st' st ∧ Q d st'
theorem RQ.of {Q : Kd} {d : D} {st : Sto} (h : Q d st) : RQ Q d st := ⟨st, Sub.refl st, h⟩
theorem Go.sub {K : PySem.W.Frag} {st hid : Sto} {H : Hp} {Qd : Kd} {Q : VK} (k : Go K st hid H Qd Q) : Go K st hid H (RQ Qd) Q := fun v H1 d st1 F1 S1 r ⟨st2, hs, q⟩ => by
  obtain ⟨S2, F2⟩ := S1.sub hs
  exact k v H1 d st2 (Fr.trans F1 F2) S2 (r.mono F2 S1.sr) q
theorem can_ofS {P : Program} {w : World} {K : PySem.W.Frag} {mg : Str → Option Value} {base : Heap} {x : Str} {st : Stmt} {N ps : List Str} {k : Nat} {sp : SpD} {t : TSd} (F : Has K mg x st) (S : FnScope N ps (defScope st)) (len : ∀ ds s Q, sp ds s Q → ds.length = ps.length)
    (bind : ∀ (kV doc pm : Value) (an : Option Addr) (cdv ct : Value) (us : List Value), us.length = ps.length → bindArgs (PySem.W.fnOf x x (defArgs st) (defBody st) (defScope st) .none kV doc pm an cdv ct) ⟨us, []⟩ = pure (ps.zip us))
    (hbody : ∀ (f : Addr) (cd : Value) (A : Around) (outer : List Env) (s : Shared) (H : Hp) (E : XK), A.guards = some [] → Room k (A.deeper (envOfC x (defScope st) s.heap.objs.size f cd)) → PDSs (cxD P w K mg base N x (defScope st) f cd A outer s H E) (defBody st) t)
    (hsp : ∀ ds s Q, sp ds s Q → t { nx := fun _ s' => RQ Q (.d .none) s', rt := RQ Q } (startD N ds) s) : Can P w K mg base (k + 1) x st ps sp := by
  have C : Can P w K mg base (k + 1) x st ps (fun ds s Q => ∃ Q0, sp ds s Q0 ∧ Q = RQ Q0) := can_of F S (fun ds s Q ⟨Q0, h, _⟩ => len ds s Q0 h) bind hbody fun ds s Q ⟨Q0, h, e⟩ => by
    subst e
    exact hsp ds s Q0 h
  obtain ⟨f, fd, ⟨l, r⟩, h⟩ := C.ex
  refine ⟨f, fd, ⟨fun vs H Q E ⟨ds, s, hid, Qd, rd, S, hq, g⟩ => l vs H Q E ⟨ds, s, hid, RQ Qd, rd, S, ⟨Qd, hq, rfl⟩, Go.sub g⟩, fun A outer s H args us vs Q E hg hr e0 hb hv ⟨ds, sd, hid, Qd, rd, Sd, hq, g⟩ => r A outer s H args us vs Q E hg hr e0 hb hv ⟨ds, sd, hid, RQ Qd, rd, Sd, ⟨Qd, hq, rfl⟩, Go.sub g⟩⟩, h⟩
end DL
namespace DL
open PySem PySem.Spec PyProof.Rows L2
/-- repr(x), of a list that may still grow too -/
def cReprX : RCd := fun ds st Q => match ds with
  | [.d x] => x.hasDict = false ∧ x.showable = true ∧ x.shown.length ≤ sizeLine ∧ x.depth ≤ 64 ∧ Q (.d (.str x.shown)) st
  | [.own a] => ∃ xs : List PyData, st a = some (xs.map D.d) ∧ (PyData.list xs).hasDict = false ∧ (PyData.list xs).showable = true ∧ (PyData.list xs).shown.length ≤ sizeLine ∧ (PyData.list xs).depth ≤ 64 ∧ Q (.d (.str (PyData.list xs).shown)) st
  | _ => False
section
variable {X : Cx}
theorem c_reprX (hG : X.A.guards = some []) (hu : X.A.units + 65 < cLine) : CallR X (.builtin "repr") (upC X.K cReprX) := fun pins s σ H vs us Q I rx ⟨ds, st, hid, Qd, r, S, w, k⟩ => by
  unfold cReprX at w
  split at w
  · exact c_repr hG hu pins s σ H vs us Q I rx ⟨_, st, hid, Qd, r, S, w, k⟩
  · rename_i a
    obtain ⟨v, rfl, r1⟩ := r.one
    obtain ⟨xs, e, h1, h2, h3, h4, q⟩ := w
    cases r1 with
    | own _ =>
      obtain ⟨ws, hw, r2⟩ := S.at_ e
      have r2 := Dvs.of r2
      obtain ⟨u, rfl, ru⟩ := vals1 rx
      cases ru
      obtain ⟨as, rd⟩ := Dp.reads I _ _ _ (Dp.lst (.inl (.inl hw)) (Dvs.dp r2 (by simpa [PyData.hasDict] using h1))) rfl
      exact repr_of_reads' rd h2 (fun z => by rw [h1] at z; cases z) hG (by omega) (fun _ _ e => e) (fun h' u tk kp => ⟨.str _, H, I.kept kp, ⟨_, rfl⟩, k.now S (.d (.str _)) q⟩) h3
  · exact w.elim
end
end DL
namespace DL
open PySem PySem.Spec PyProof.Rows L2
/-! ### x = [.. for ..]: the name is stored within the comprehension's own swap -/
theorem lcM_imp {X : Cx} {M : List D → Sto → Kd → Prop} (hM : ∀ ds st Q, M ds st Q → mkL ds st Q) {i : Nat} {ti : TId} {tt : TTd} {te : TEd} {σ : L2.St} {H : Hp} {Q : VK} (w : up X.K (dLcM M ti i tt te) σ H Q) : tLc (upI X.K ti) (gName i) (upT X.K tt) (up X.K te) [i] σ H Q := by
  obtain ⟨e, st, hid, Qd, re, S, h, k⟩ := w
  refine ⟨e, st, hid, _, re, S, h, fun J H1 it st1 F1 S1 ok1 at1 ⟨W, w0, turn⟩ p hp => ?_⟩
  have n1 := jn_free (S1.sr.free0 hp)
  refine ⟨fun j m H2 => m = it.xs.length - j ∧ ∃ acc st2, W j acc st2 ∧ Sx X.K (put st2 p acc) hid H2 ∧ st2 p = none ∧ Fr (jn (put st1 p []) hid) (upd H1 p (.lst [])) (jn (put st2 p acc) hid) H2, ⟨it.xs.length, by simp, [], st1, w0, S1.own hp .nil, n1.1, Fr.refl _ _⟩, ?_⟩
  rintro j m H2 ⟨rfl, acc, st2, w2, S2, n2, F2⟩
  obtain ⟨at2, done, go⟩ := turn j acc st2 w2
  have Sh := S2.hide n2
  have eqF : jn st2 (put hid p acc) = jn (put st2 p acc) hid := jn_swap n2
  -- from the state ahead of the new list
  have F12 : Fr (jn st1 hid) H1 (jn (put st2 p acc) hid) H2 := Fr.trans (fx_own hp) F2
  have F02 : Fr (jn st hid) H (jn (put st2 p acc) hid) H2 := Fr.trans F1 F12
  have atF : it.at (jn (put st2 p acc) hid) := fun a ds z => by
    have e1 := at2 a ds z
    have ne : a ≠ p := fun z' => by
      rw [z', n2] at e1
      cases e1
    exact jn_some (by rw [put_ne ne]; exact e1)
  have It := ok1 j _ H2 F12 S2.sr atF
  by_cases hj : it.xs.length ≤ j
  · refine .inl ⟨It.2 hj, ?_⟩
    obtain ⟨vs, hv, rv⟩ := S2.at_ put_same
    rcases hM _ _ _ (done hj) with ⟨xs, ep, q⟩ | q
    · have ea := pures_eq ep
      subst ea
      obtain ⟨Sc, Fc, fc⟩ := S2.frz put_same
      have ec : cut (put st2 p (xs.map D.d)) p = st2 := by
        funext b
        by_cases eb : b = p
        · rw [eb, cut_same, n2]
        · rw [cut_ne eb, put_ne eb]
      rw [ec] at Sc Fc fc
      exact k _ H2 _ st2 (Fr.trans F02 Fc) Sc (.d (.lst hv fc ((Dvs.of rv).mono Fc S2.sr))) q
    · exact k _ H2 _ _ F02 S2 (.own p) (q p n2)
  · have hlt : j < it.xs.length := Nat.lt_of_not_le hj
    have ed : it.xs[j]? = some it.xs[j] := List.getElem?_eq_getElem hlt
    obtain ⟨g1, g2⟩ := It.1 _ ed
    refine .inr ⟨g1, fun H' => ∃ acc' st', W (j + 1) acc' st' ∧ Sx X.K (put st' p acc') hid H' ∧ st' p = none ∧ Fr (jn (put st1 p []) hid) (upd H1 p (.lst [])) (jn (put st' p acc') hid) H', fun H' ⟨acc', st', h1, h2, h3, h4⟩ => ⟨it.xs.length - (j + 1), by omega, rfl, acc', st', h1, h2, h3, h4⟩, fun x H3 hy => ?_⟩
    obtain ⟨F23, S3r, rx⟩ := g2 x H3 hy
    have S3 : Sx X.K (put st2 p acc) hid H3 := ⟨S2.dj, S3r⟩
    have S3h := S3.hide n2
    have F03 := Fr.trans F02 F23
    have reX : RE X.K (jn st2 (put hid p acc)) H3 (((wipe σ [i]).set i (some x))) (e.set i (some it.xs[j])) := by
      rw [eqF]
      show RE X.K _ H3 ((σ.set i none).set i (some x)) _
      rw [set_none_set]
      exact (re.mono F03 S.sr).set rx
    show wipe ((wipe σ [i]).set i (some x)) [i] = wipe σ [i] ∧ upT X.K tt ((wipe σ [i]).set i (some x)) H3 _
    refine ⟨by
      show (((σ.set i none).set i (some x)).set i none) = σ.set i none
      rw [List.set_set, List.set_set], ?_⟩
    refine ⟨_, st2, put hid p acc, _, reX, S3h, go _ ed, fun b H4 st4 F4 S4 q4 => ?_⟩
    have hn : hid p = none := n1.2
    have F3X : Fr (jn (put st1 p []) hid) (upd H1 p (.lst [])) (jn st2 (put hid p acc)) H3 := by
      rw [eqF]
      exact Fr.trans F2 F23
    cases b with
    | false =>
      rw [if_neg Bool.false_ne_true] at q4
      refine iteF ?_
      obtain ⟨S4', n4⟩ := S4.shown hn
      refine ⟨acc, st4, q4, S4', n4, ?_⟩
      rw [← jn_swap n4]
      exact Fr.trans F3X F4
    | true =>
      rw [if_pos rfl] at q4
      refine iteT ?_
      refine ⟨_, st4, put hid p acc, _, reX.mono F4 S3h.sr, S4, q4, fun v H5 d st5 F5 S5 r5 ⟨hz, w5⟩ => ?_⟩
      obtain ⟨S5', n5⟩ := S5.shown hn
      obtain ⟨vs, hv, rv⟩ := S5'.at_ put_same
      rw [jn_swap n5] at r5
      refine ⟨vs, hv, by rw [Paired.length rv]; exact hz, acc ++ [d], st5, w5, ?_, n5, ?_⟩
      · have := S5'.store (es := acc ++ [d]) put_same (DvsD.snoc rv r5)
        have ee : put (put st5 p acc) p (acc ++ [d]) = put st5 p (acc ++ [d]) := by
          funext b
          by_cases eb : b = p
          · rw [eb, put_same, put_same]
          · rw [put_ne eb, put_ne eb, put_ne eb]
        rw [ee] at this
        exact this
      · have Fa : Fr (jn (put st1 p []) hid) (upd H1 p (.lst [])) (jn (put st5 p acc) hid) H5 := by
          rw [← jn_swap n5]
          exact Fr.trans F3X (Fr.trans F4 F5)
        intro b o hb hf
        have ne : b ≠ p := fun z => by
          rw [z, jn_some put_same] at hf
          cases hf
        obtain ⟨z1, z2⟩ := Fa b o hb hf
        refine ⟨by rw [upd_ne ne]; exact z1, ?_⟩
        unfold jn at z2 ⊢
        rw [put_ne ne] at z2 ⊢
        exact z2
theorem psd_setLc {X : Cx} {M : List D → Sto → Kd → Prop} (hM : ∀ ds st Q, M ds st Q → mkL ds st Q) {i m : Nat} {x : Str} {pos' spos : Pos} {elt iter : Expr} {ifs : List Expr} {scope : Scope} {y : Str} {py pos : Pos} {ti : TId} {tt : TTd} {te : TEd} (hc : X.calm = true) (hN : X.N.Nodup) (hi : X.N[i]? = some x) (hx : X.env.scope.names.lookup x = some .local)
    (hs : swapsWith (.ListComp elt [⟨.Name y py, iter, ifs, 0⟩] scope pos) (some (.Name x pos')) spos.line X.env = pure true) (hit : PDI X (.Name y py) iter ti) (ok : BlkOk X.N X.env.scope scope [(y, m)])
    (hg : ∀ (s : Shared) (H : Hp) (C : Addr) (cl : List (Str × Addr)) (fp : List Addr), PG (X.blk s H scope (compEnvC scope cl C X.env) fp) (.Name y py) (gName m))
    (ht : ∀ (s : Shared) (H : Hp) (C : Addr) (cl : List (Str × Addr)) (fp : List Addr), PDTs (X.blk s H scope (compEnvC scope cl C X.env) fp) ifs tt)
    (he : ∀ (s : Shared) (H : Hp) (C : Addr) (cl : List (Str × Addr)) (fp : List Addr), PD (X.blk s H scope (compEnvC scope cl C X.env) fp) elt te) (hf : ∀ x, foldedSetIterable iter X.env x = pure x := by intro _; rfl) :
    PDS X (.Assign [.Name x pos'] (.ListComp elt [⟨.Name y py, iter, ifs, 0⟩] scope pos) spos) (dAsg (dLcM M ti m tt te) (hName i)) :=
  PS.imp (ps_setLc (own := [(y, m)]) (wi := upI X.K ti) (g := gName m) (tt := upT X.K tt) (te := up X.K te) hc hN hi hx hs hit ok hg ht he hf) fun D σ H ⟨e, st, hid, E, re, S, h, k1, k2, k3, k4⟩ =>
    lcM_imp hM ⟨e, st, hid, _, re, S, h, frz_go fun v H1 d st1 F1 S1 r q => k1 _ H1 _ st1 F1 S1 ((re.mono F1 S.sr).set r) q⟩
end DL
namespace DL
open PySem PySem.Spec PyProof.Rows L2
/-! ### xs.insert(at, x) -/
theorem ins_tree {a : Addr} {i : Int} {t : Tok} {y : Value} (h : Builtin.List.listFitsIndex i = true) : Builtin.«list.insert» { pos := [.ref a, .int i t, y] } = (do
    Builtin.List.listUpdate (.ref a) fun xs => (xs.extract 0 (if i < 0 then (i + ↑xs.size).toNat else min i.toNat xs.size)).push y ++ xs.extract (if i < 0 then (i + ↑xs.size).toNat else min i.toNat xs.size)
    ret Value.none) := by
  unfold Builtin.«list.insert»
  have e1 : selfAndSome "list.insert" "insert" 2 2 { pos := [.ref a, .int i t, y] } = pure (.ref a, [.int i t, y]) := rfl
  have e2 : asIndex (.int i t) = pure i := rfl
  rw [e1]
  simp only [pure_bind, e2, h]
  rfl
def insA (i : Int) (y : Value) (xs : Array Value) : Array Value := (xs.extract 0 (if i < 0 then (i + ↑xs.size).toNat else min i.toNat xs.size)).push y ++ xs.extract (if i < 0 then (i + ↑xs.size).toNat else min i.toNat xs.size)
theorem insA_eq {i : Nat} {y : Value} {its : List Value} (h : i ≤ its.length) : insA i y its.toArray = (its.take i ++ y :: its.drop i).toArray := by
  unfold insA
  have e : (if (i : Int) < 0 then ((i : Int) + ↑its.toArray.size).toNat else min (i : Int).toNat its.toArray.size) = i := by
    rw [if_neg (by omega)]
    simp
    omega
  rw [e]
  simp
  exact List.take_of_length_le (by rw [List.length_drop]; exact Nat.le_refl _)
def rIns : V → List V → Hp → VK → Prop := fun x vs H Q => ∃ l xs, ∃ i : Nat, ∃ y, x = .ref l ∧ vs = [.int i, y] ∧ H l = some (.lst xs) ∧ i ≤ xs.length ∧ xs.length < sizeLine ∧ Q .non (upd H l (.lst (xs.take i ++ y :: xs.drop i)))
theorem vals_take : ∀ {vs : List V} {us : List Value} (i : Nat), Vals vs us → Vals (vs.take i) (us.take i) ∧ Vals (vs.drop i) (us.drop i)
  | _, _, 0, h => ⟨.nil, h⟩
  | _, _, _ + 1, .nil => ⟨.nil, .nil⟩
  | _, _, i + 1, .cons r t => ⟨.cons r (vals_take i t).1, (vals_take i t).2⟩
theorem vals_app : ∀ {vs ws : List V} {us ts : List Value}, Vals vs us → Vals ws ts → Vals (vs ++ ws) (us ++ ts)
  | _, _, _, _, .nil, h => h
  | _, _, _, _, .cons r t, h => .cons r (vals_app t h)
theorem vals_ins {vs : List V} {us : List Value} {y : V} {u : Value} (h : Vals vs us) (r : RelV y u) (i : Nat) : Vals (vs.take i ++ y :: vs.drop i) (us.take i ++ u :: us.drop i) := vals_app (vals_take i h).1 (.cons r (vals_take i h).2)
theorem mt_insert {X : Cx} : MtM X "list.insert" rIns := by
  rintro pins s σ H x vs v us Q I rx rvs ⟨l, xs, i, y, rfl, rfl, hl, hi, hz, q⟩
  cases rx
  cases rvs with
  | cons r1 t =>
  rename_i u1 us1
  cases t with
  | cons r2 t =>
  rename_i u2 us2
  cases t
  obtain ⟨t1, rfl⟩ := r1
  obtain ⟨h1, its, n, rv, hat⟩ := I.hok l _ hl
  have el := rv.length
  have fits : Builtin.List.listFitsIndex (i : Int) = true := by
    unfold Builtin.List.listFitsIndex
    have : i ≤ 2 ^ 24 := Nat.le_trans hi (Nat.le_trans (Nat.le_of_lt hz) (by decide))
    simp only [Bool.and_eq_true, decide_eq_true_eq]
    omega
  have upd' : Vals (xs.take i ++ y :: xs.drop i) (its.take i ++ u2 :: its.drop i) := vals_ins rv r2 i
  refine call_meets (S := fun A R s => ∃ o its n, s.heap.get? l = some o ∧ o.data = .seq (List.toArray its) n ∧ i ≤ its.length ∧ its.length < sizeLine ∧ R (.ok (.ret .none)) { s with heap := s.heap.update l (Obj.mapSeq (insA i u2)) }) PySem.F.slot_list_insert ?_ PySem.F.entry_list_insert (PySem.F.args_list_insert_3 _ _ _) ?_ ?_
  · exact ⟨_, hat, rfl⟩
  · intro prog w A R s ⟨o, its, n, h1, h2, h3, h4, q⟩
    rw [ins_tree fits]
    refine wpAny_bind (listUpdate_at h1 h2 ?_ ?_ ?_)
    · exact wpAny_pure q
    · show its.toArray.size ≤ sizeLine
      rw [List.size_toArray]
      omega
    · show (insA i u2 its.toArray).size ≤ sizeLine + 1
      rw [insA_eq h3, List.size_toArray, List.length_append, List.length_cons, List.length_take, List.length_drop]
      omega
  · refine ⟨_, its, n, hat, rfl, by omega, by omega, ?_⟩
    exact ⟨.non, _, I.lset hl hat (insA_eq (by omega)) upd' (by rw [List.length_append, List.length_cons, List.length_take, List.length_drop]; omega), rfl, q⟩
section
variable {X : Cx} {e e1 : Expr} {te te1 : TEd}
/-- xs.insert(i, e) -/
def dIns (to ti te : TEd) : TEd := fun e st Q => to e st fun o st1 => match o with
  | .own a => (st1 a).isSome = true ∧ ti e st1 fun x st2 => match x with
    | .d (.int i) => te e st2 fun d st3 => ∃ ds, ∃ j : Nat, i = j ∧ st3 a = some ds ∧ j ≤ ds.length ∧ ds.length < sizeLine ∧ Q (.d .none) (put st3 a (ds.take j ++ d :: ds.drop j))
    | _ => False
  | _ => False
theorem paired_ins {α β : Type} {R : α → β → Prop} : ∀ {xs : List α} {ys : List β} {x : α} {y : β} (i : Nat), Paired R xs ys → R x y → Paired R (xs.take i ++ x :: xs.drop i) (ys.take i ++ y :: ys.drop i)
  | _, _, _, _, 0, h, r => .cons r h
  | _, _, _, _, _ + 1, .nil, r => .cons r .nil
  | _, _, _, _, i + 1, .cons h t, r => .cons h (paired_ins i t r)
theorem pd_insert {o : Expr} {to ti : TEd} {apos cpos : Pos} (ho : PD X o to) (hi : PD X e1 ti) (ha : PD X e te)
    (hbase : attributeBase o "insert" X.env (eval o X.env) = eval o X.env := by rfl) (hline : (apos.endLine == cpos.line) = true := by rfl)
    (hs0 : starEach [e1, e] X.env = (false, eval e1 X.env) :: starEach [e] X.env := by rfl) (hs1 : starEach [e] X.env = (false, eval e X.env) :: starEach [] X.env := by rfl)
    (hfew : ((backTo cpos (starEach [e1, e] X.env)).all (fun x => !x.1) && (backToKw cpos (keywordEach [] X.env)).all (fun x => x.1.isSome) && decide ([e1, e].length + ([] : List Keyword).length + (if ([] : List Keyword).isEmpty then 0 else 1) < 30)) = true := by rfl)
    (hplain : (backTo cpos (starEach [e] X.env)).any (·.1) = false := by rfl) : PD X (.Call (.Attribute o "insert" apos) [e1, e] [] cpos) (dIns to ti te) := by
  refine PE.imp (pe_bm PySem.F.plainAttrs_list PySem.F.slot_list_insert PySem.F.type_list_insert mt_insert ho (pa_cons hi (pa_cons ha pa_nil hs1) hs0) hbase hfew hline hs0 hplain) fun σ H Q ⟨e, st, hid, Qd, re, S, h, k⟩ => ⟨e, st, hid, _, re, S, h, fun v H1 d st1 F1 S1 r q => ?_⟩
  cases r with
  | d h => exact q.elim
  | scr h f => exact q.elim
  | own a =>
    obtain ⟨h0, q⟩ := q
    obtain ⟨ds, e1⟩ := Option.isSome_iff_exists.mp h0
    obtain ⟨vs, hv, rv⟩ := S1.at_ e1
    refine ⟨.inl ⟨rfl, vs, .inl (.inl hv)⟩, e, st1, hid, _, re.mono F1 S.sr, S1, q, fun y H2 dy st2 F2 S2 ry q2 => ?_⟩
    cases ry with
    | own _ => exact q2.elim
    | scr _ _ => exact q2.elim
    | d ry =>
      cases ry with
      | int i =>
        refine ⟨e, st2, hid, _, (re.mono F1 S.sr).mono F2 S1.sr, S2, q2, fun z H3 dz st3 F3 S3 rz ⟨es, j, ej, e2, hj, hz, q3⟩ => ?_⟩
        subst ej
        obtain ⟨ws, hw, rw'⟩ := S3.at_ e2
        have F4 : FrX st3 hid H3 (put st3 a (es.take j ++ dz :: es.drop j)) (upd H3 a (.lst (ws.take j ++ z :: ws.drop j))) := fx_put e2
        have ln := Paired.length rw'
        exact ⟨a, ws, j, z, rfl, rfl, hw, by omega, by omega, k _ _ _ _ (Fr.trans F1 (Fr.trans F2 (Fr.trans F3 F4))) (S3.store e2 (paired_ins j rw' rz)) (.d .non) q3⟩
      | _ => exact q2.elim
end
end DL
namespace DL
open PySem PySem.Spec PyProof.Rows L2
section
variable {X : Cx} {e : Expr} {te : TEd}
/-- x += e, of whole numbers -/
def dAug (i : Nat) (te : TEd) : TSd := fun E e st => ∃ x : Int, e[i]? = some (some (.d (.int x))) ∧ te e st fun y st1 => match y with
  | .d (.int j) => E.nx (e.set i (some (.d (.int (x + j))))) st1
  | _ => False
theorem psd_aug {i : Nat} {x : Str} {pos pos' : Pos} (hN : X.N.Nodup) (hi : X.N[i]? = some x) (hx : Loc X.env.scope x) (he : PD X e te) (hf : X.fn x = true ∨ X.env.scope.names.lookup x = some .local := by first | exact .inl rfl | exact .inr rfl | assumption) :
    PDS X (.AugAssign (.Name x pos') .Add e pos) (dAug i te) := PS.imp (ps_aug hN hi hx he ip_add hf) fun D σ H ⟨e, st, hid, E, re, S, ⟨x, hx, h⟩, k1, k2, k3, k4⟩ => by
  obtain ⟨v, hv, rv⟩ := re.at_ i _ hx
  cases rv with
  | d rv =>
  cases rv
  refine ⟨_, hv, e, st, hid, _, re, S, h, fun y H1 d st1 F1 S1 r q => ?_⟩
  cases r with
  | own _ => exact q.elim
  | scr _ _ => exact q.elim
  | d r =>
    cases r with
    | int j => exact ⟨x, j, rfl, rfl, k1 _ H1 _ st1 F1 S1 ((re.mono F1 S.sr).set (.d (.int _))) q⟩
    | _ => exact q.elim
/-- x = y = e -/
def dTwo (i j : Nat) (te : TEd) : TSd := fun E e st => te e st (frz fun d st1 => E.nx ((e.set i (some d)).set j (some d)) st1)
theorem psd_two {i j : Nat} {x y : Str} {px py pos : Pos} (hN : X.N.Nodup) (hi : X.N[i]? = some x) (hj : X.N[j]? = some y) (hx : Loc X.env.scope x) (hy : Loc X.env.scope y) (he : PD X e te)
    (hf : X.fn x = true ∨ X.env.scope.names.lookup x = some .local := by first | exact .inl rfl | exact .inr rfl | assumption) (hg : X.fn y = true ∨ X.env.scope.names.lookup y = some .local := by first | exact .inl rfl | exact .inr rfl | assumption)
    (h1 : (assignEach [.Name x px, .Name y py] X.env).map (·.2) = [assign (.Name x px) X.env, assign (.Name y py) X.env] := by rfl) (h2 : swappedStores [.Name x px, .Name y py] e X.env = pure none := by rfl) :
    PDS X (.Assign [.Name x px, .Name y py] e pos) (dTwo i j te) := ⟨fun pins s σ H D I ⟨e, st, hid, E, re, S, h, k1, k2, k3, k4⟩ =>
  wpAny_Assign_two (thn (he.run pins s σ H (fun v H1 => D.nx ((σ.set i (some v)).set j (some v)) H1) I ⟨e, st, hid, _, re, S, h, frz_go fun v H1 d st1 F1 S1 r q => k1 _ H1 _ st1 F1 S1 (((re.mono F1 S.sr).set r).set r) q⟩) fun u s1 ⟨v, H1, I1, r, q⟩ =>
    thn ((pg_name hN hi hx hf).run pins s1 σ H1 v u (fun σ' H' => σ' = σ.set i (some v) ∧ H' = H1) I1 r ⟨rfl, rfl⟩) fun _ s2 ⟨σ', H', I2, e1, e2⟩ => by
      subst e1
      subst e2
      exact thn ((pg_name hN hj hy hg).run pins s2 _ _ v u (fun σ' H' => D.nx σ' H') I2 r q) fun _ s3 w => w) h1 h2⟩
/-- a def, as a value -/
def dOwnG (f : Addr) : TEd := fun e st Q => Q (.own f) st
theorem pd_gfn {x : Str} {pos : Pos} {f : Addr} (hg : Gl X x) (hm : X.mg x = some (.ref f)) (hdb : (x == ("__debug__" : Str)) = false := by decide) : PD X (.Name x pos) (dOwnG f) :=
  PE.imp (pe_glob (v := .ref f) hg hm rfl hdb) fun σ H Q ⟨e, st, hid, Qd, re, S, h, k⟩ => k.now S (.own f) h
theorem pd_gint {x : Str} {pos : Pos} {n : Int} (hg : Gl X x) (hm : ∃ t, X.mg x = some (.int n t)) (hdb : (x == ("__debug__" : Str)) = false := by decide) : PD X (.Name x pos) (dC (.int n)) := by
  obtain ⟨t, hm⟩ := hm
  exact PE.imp (pe_glob (v := .int n) hg hm ⟨t, rfl⟩ hdb) fun σ H Q ⟨e, st, hid, Qd, re, S, h, k⟩ => k.now S (.d (.int n)) h
/-- g(..), g being a local name that holds a def -/
def dFnL (sp : SpD) (i : Nat) (f : Addr) (t : TAd) : TEd := fun e st Q => e[i]? = some (some (.own f)) ∧ t e st fun xs st1 => sp xs st1 Q
theorem pd_fnL {k : Nat} {f : Addr} {fd : FuncData} {ps : List Str} {sp : SpD} {i : Nat} {x : Str} {p pos : Pos} {es : List Expr} {t : TAd} (F : FnD X.prog X.w X.K X.mg X.base k f fd ps sp) (hG : X.A.guards = some []) (hr : Room k X.A) (hi : X.N[i]? = some x) (hv : Vis X.env.scope x) (hk : PySem.W.keepIn X.K (.ref f) = true) (hb : Binds X.K fd ps [])
    (ha : PDA X (e :: es) t) (hd : (x == ("__debug__" : Str)) = false := by decide) (hcd : (x == ("__classdict__" : Str)) = false := by decide) (he : starEach (e :: es) X.env = (false, eval e X.env) :: starEach es X.env := by rfl)
    (hpl : (backTo pos (starEach es X.env)).any (·.1) = false := by rfl) : PD X (.Call (.Name x p) (e :: es) [] pos) (dFnL sp i f t) := by
  refine ⟨fun pins s σ H Q I ⟨en, st, hid, Qd, re, S, ⟨hf, h⟩, g⟩ => ?_⟩
  obtain ⟨v, hv1, rv⟩ := re.at_ i _ hf
  cases rv
  refine wpAny_Call_Name_kw (thn ((pe_var (pos := p) hi hv hd hcd).run pins s σ H (fun v' H' => v' = .ref f ∧ H' = H) I ⟨_, hv1, rfl, rfl⟩) fun u s1 ⟨v', H', I1, r1, e1, e2⟩ => ?_)
  subst e1
  subst e2
  cases r1
  refine PySem.W.callWith_K (h₀ := X.base) I1.ok.mod.kin hk (thn (ha.run pos pins s1 σ H' (fun vs H1 => upSp X.K sp vs H1 Q E0) I1 ⟨en, st, hid, _, re, S, h, fun vs H1 ds1 st1 F1 S1 r1 h1 => ?_⟩) fun us s2 ⟨vs, H1, I2, r, q⟩ => ⟨I2.kIn, ?_⟩) he hpl
  · show upSp X.K sp vs H1 Q E0
    exact ⟨_, st1, hid, Qd, r1, S1, h1, Go.mono g F1⟩
  · exact run_fg F hG hr I2 (fun hl => by have := hb s2 us I2.kIn (by simpa using hl); simpa using this) r q
end
end DL
namespace DL
open PySem PySem.Spec PyProof.Rows L2
theorem lcP_imp {X : Cx} {M : List D → Sto → Kd → Prop} (hM : ∀ ds st Q, M ds st Q → mkL ds st Q) {ti : TId} {tt : TTd} {te : TEd} (p : Pat) (own : List (Str × Nat)) (ho : ∀ i, i ∈ own.map (·.2) ↔ i ∈ slots p) {σ : L2.St} {H : Hp} {Q : VK} (w : up X.K (dLcP M ti p tt te) σ H Q) : tLc (upI X.K ti) (gP X.K p) (upT X.K tt) (up X.K te) (own.map (·.2)) σ H Q := by
  obtain ⟨e, st, hid, Qd, re, S, h, k⟩ := w
  refine ⟨e, st, hid, _, re, S, h, fun J H1 it st1 F1 S1 ok1 at1 ⟨W, w0, turn⟩ p' hp => ?_⟩
  have n1 := jn_free (S1.sr.free0 hp)
  refine ⟨fun j m H2 => m = it.xs.length - j ∧ ∃ acc st2, W j acc st2 ∧ Sx X.K (put st2 p' acc) hid H2 ∧ st2 p' = none ∧ Fr (jn (put st1 p' []) hid) (upd H1 p' (.lst [])) (jn (put st2 p' acc) hid) H2, ⟨it.xs.length, by simp, [], st1, w0, S1.own hp .nil, n1.1, Fr.refl _ _⟩, ?_⟩
  rintro j m H2 ⟨rfl, acc, st2, w2, S2, n2, F2⟩
  obtain ⟨at2, done, go⟩ := turn j acc st2 w2
  have Sh := S2.hide n2
  have eqF : jn st2 (put hid p' acc) = jn (put st2 p' acc) hid := jn_swap n2
  have F12 : Fr (jn st1 hid) H1 (jn (put st2 p' acc) hid) H2 := Fr.trans (fx_own hp) F2
  have F02 : Fr (jn st hid) H (jn (put st2 p' acc) hid) H2 := Fr.trans F1 F12
  have atF : it.at (jn (put st2 p' acc) hid) := fun a ds z => by
    have e1 := at2 a ds z
    have ne : a ≠ p' := fun z' => by
      rw [z', n2] at e1
      cases e1
    exact jn_some (by rw [put_ne ne]; exact e1)
  have It := ok1 j _ H2 F12 S2.sr atF
  by_cases hj : it.xs.length ≤ j
  · refine .inl ⟨It.2 hj, ?_⟩
    obtain ⟨vs, hv, rv⟩ := S2.at_ put_same
    rcases hM _ _ _ (done hj) with ⟨xs, ep, q⟩ | q
    · have ea := pures_eq ep
      subst ea
      obtain ⟨Sc, Fc, fc⟩ := S2.frz put_same
      have ec : cut (put st2 p' (xs.map D.d)) p' = st2 := by
        funext b
        by_cases eb : b = p'
        · rw [eb, cut_same, n2]
        · rw [cut_ne eb, put_ne eb]
      rw [ec] at Sc Fc fc
      exact k _ H2 _ st2 (Fr.trans F02 Fc) Sc (.d (.lst hv fc ((Dvs.of rv).mono Fc S2.sr))) q
    · exact k _ H2 _ _ F02 S2 (.own p') (q p' n2)
  · have hlt : j < it.xs.length := Nat.lt_of_not_le hj
    have ed : it.xs[j]? = some it.xs[j] := List.getElem?_eq_getElem hlt
    obtain ⟨g1, g2⟩ := It.1 _ ed
    refine .inr ⟨g1, fun H' => ∃ acc' st', W (j + 1) acc' st' ∧ Sx X.K (put st' p' acc') hid H' ∧ st' p' = none ∧ Fr (jn (put st1 p' []) hid) (upd H1 p' (.lst [])) (jn (put st' p' acc') hid) H', fun H' ⟨acc', st', h1, h2, h3, h4⟩ => ⟨it.xs.length - (j + 1), by omega, rfl, acc', st', h1, h2, h3, h4⟩, fun x H3 hy => ?_⟩
    obtain ⟨F23, S3r, rx⟩ := g2 x H3 hy
    obtain ⟨xd, e', exd, he', go2⟩ := go _ ed
    rw [exd] at rx
    cases rx with
    | d rx =>
    have S3 : Sx X.K (put st2 p' acc) hid H3 := ⟨S2.dj, S3r⟩
    have S3h := S3.hide n2
    have F03 := Fr.trans F02 F23
    have reo : REo X.K (jn (put st2 p' acc) hid) H3 (· ∈ own.map (·.2)) (wipe σ (own.map (·.2))) e := (re.mono F03 S.sr).off _
    refine gP_go p reo rx he' (fun i hi => (ho i).mpr hi) fun σ2 r2 w2 => ?_
    have reX : RE X.K (jn st2 (put hid p' acc)) H3 σ2 e' := by
      rw [eqF]
      exact r2.on fun i hi => hi.2 ((ho i).mp hi.1)
    have ww : wipe (wipe σ (own.map (·.2))) (own.map (·.2)) = wipe σ (own.map (·.2)) := by
      refine List.ext_getElem? fun i => ?_
      by_cases hi : i ∈ own.map (·.2)
      · by_cases hl : i < σ.length
        · rw [wipe_in hi (by rw [wipe_length]; exact hl), wipe_in hi hl]
        · rw [List.getElem?_eq_none (by rw [wipe_length, wipe_length]; omega), List.getElem?_eq_none (by rw [wipe_length]; omega)]
      · rw [wipe_at hi]
    refine ⟨w2.trans ww, ?_⟩
    refine ⟨_, st2, put hid p' acc, _, reX, S3h, go2, fun b H4 st4 F4 S4 q4 => ?_⟩
    have hn : hid p' = none := n1.2
    have F3X : Fr (jn (put st1 p' []) hid) (upd H1 p' (.lst [])) (jn st2 (put hid p' acc)) H3 := by
      rw [eqF]
      exact Fr.trans F2 F23
    cases b with
    | false =>
      rw [if_neg Bool.false_ne_true] at q4
      refine iteF ?_
      obtain ⟨S4', n4⟩ := S4.shown hn
      refine ⟨acc, st4, q4, S4', n4, ?_⟩
      rw [← jn_swap n4]
      exact Fr.trans F3X F4
    | true =>
      rw [if_pos rfl] at q4
      refine iteT ?_
      refine ⟨_, st4, put hid p' acc, _, reX.mono F4 S3h.sr, S4, q4, fun v H5 d st5 F5 S5 r5 ⟨hz, w5⟩ => ?_⟩
      obtain ⟨S5', n5⟩ := S5.shown hn
      obtain ⟨vs, hv, rv⟩ := S5'.at_ put_same
      rw [jn_swap n5] at r5
      refine ⟨vs, hv, by rw [Paired.length rv]; exact hz, acc ++ [d], st5, w5, ?_, n5, ?_⟩
      · have := S5'.store (es := acc ++ [d]) put_same (DvsD.snoc rv r5)
        have ee : put (put st5 p' acc) p' (acc ++ [d]) = put st5 p' (acc ++ [d]) := by
          funext b
          by_cases eb : b = p'
          · rw [eb, put_same, put_same]
          · rw [put_ne eb, put_ne eb, put_ne eb]
        rw [ee] at this
        exact this
      · have Fa : Fr (jn (put st1 p' []) hid) (upd H1 p' (.lst [])) (jn (put st5 p' acc) hid) H5 := by
          rw [← jn_swap n5]
          exact Fr.trans F3X (Fr.trans F4 F5)
        intro b o hb hf
        have ne : b ≠ p' := fun z => by
          rw [z, jn_some put_same] at hf
          cases hf
        obtain ⟨z1, z2⟩ := Fa b o hb hf
        refine ⟨by rw [upd_ne ne]; exact z1, ?_⟩
        unfold jn at z2 ⊢
        rw [put_ne ne] at z2 ⊢
        exact z2
theorem psd_setLcP {X : Cx} {M : List D → Sto → Kd → Prop} (hM : ∀ ds st Q, M ds st Q → mkL ds st Q) {i : Nat} {x : Str} {pos' spos : Pos} {elt iter tg : Expr} {ifs : List Expr} {scope : Scope} {pos : Pos} {ti : TId} {tt : TTd} {te : TEd} (p : Pat) (own : List (Str × Nat)) (ho : ∀ i, i ∈ own.map (·.2) ↔ i ∈ slots p) (hc : X.calm = true) (hN : X.N.Nodup) (hi : X.N[i]? = some x) (hx : X.env.scope.names.lookup x = some .local)
    (hs : swapsWith (.ListComp elt [⟨tg, iter, ifs, 0⟩] scope pos) (some (.Name x pos')) spos.line X.env = pure true) (hit : PDI X tg iter ti) (ok : BlkOk X.N X.env.scope scope own)
    (hg : ∀ (s : Shared) (H : Hp) (C : Addr) (cl : List (Str × Addr)) (fp : List Addr), PG (X.blk s H scope (compEnvC scope cl C X.env) fp) tg (gP X.K p))
    (ht : ∀ (s : Shared) (H : Hp) (C : Addr) (cl : List (Str × Addr)) (fp : List Addr), PDTs (X.blk s H scope (compEnvC scope cl C X.env) fp) ifs tt)
    (he : ∀ (s : Shared) (H : Hp) (C : Addr) (cl : List (Str × Addr)) (fp : List Addr), PD (X.blk s H scope (compEnvC scope cl C X.env) fp) elt te) (hf : ∀ x, foldedSetIterable iter X.env x = pure x := by intro _; rfl) :
    PDS X (.Assign [.Name x pos'] (.ListComp elt [⟨tg, iter, ifs, 0⟩] scope pos) spos) (dAsg (dLcP M ti p tt te) (hName i)) :=
  PS.imp (ps_setLc (own := own) (wi := upI X.K ti) (g := gP X.K p) (tt := upT X.K tt) (te := up X.K te) hc hN hi hx hs hit ok hg ht he hf) fun D σ H ⟨e, st, hid, E, re, S, h, k1, k2, k3, k4⟩ =>
    lcP_imp hM p own ho ⟨e, st, hid, _, re, S, h, frz_go fun v H1 d st1 F1 S1 r q => k1 _ H1 _ st1 F1 S1 ((re.mono F1 S.sr).set r) q⟩
end DL
namespace DL
open PySem PySem.Spec PyProof.Rows L2
/-- a, b, .. = x, y, .. by way of a tuple -/
def dUnp (n : Nat) (t : TAd) (u : TGsd) : TSd := fun E e st => t e st fun ds st1 => ds.length = n ∧ u ds e st1 E.nx
theorem psd_unp {X : Cx} {es gs : List Expr} {k k2 n : Nat} {pos pos1 pos2 : Pos} {t : TAd} {u : TGsd} (hc : X.calm = true) (ha : PDA X es t) (hgs : PDGs X gs u)
    (hn : (assignEach gs X.env).length = n := by rfl) (hst : (assignEach gs X.env).findIdx? (·.1) = none := by rfl)
    (hs : swapsWithSole [.Tuple gs k pos1] (.Tuple es k2 pos2) pos.line X.env = pure false := by rfl) (hw : swappedStores [.Tuple gs k pos1] (.Tuple es k2 pos2) X.env = pure none := by rfl)
    (h1 : (assignEach [.Tuple gs k pos1] X.env).map (·.2) = [assign (.Tuple gs k pos1) X.env] := by rfl) (hz : n ≤ sizeLine := by decide) : PDS X (.Assign [.Tuple gs k pos1] (.Tuple es k2 pos2) pos) (dUnp n t u) :=
  PS.imp (ps_asg (pe_tup ha) (pg_tup hc hgs hn hst) hs hw h1) fun D σ H ⟨e, st, hid, E, re, S, h, k1, k2, k3, k4⟩ => by
    refine ⟨e, st, hid, _, re, S, h, fun vs H1 ds st1 F1 S1 r1 ⟨hl, q⟩ => ?_⟩
    have ln := Paired.length r1
    refine ⟨by omega, fun p hp => ?_⟩
    have F2 : Fr (jn st1 hid) H1 (jn st1 hid) (upd H1 p (.tup vs)) := fr_new hp
    exact ⟨p, vs, rfl, .inl (.inl upd_same), by omega, ds, e, st1, hid, E.nx, DvsD.mono F2 S1.sr r1, (re.mono F1 S.sr).mono F2 S1.sr, S1.new hp, q, GoS.mono k1 (Fr.trans F1 F2)⟩
end DL
namespace LB
open PySem PySem.Spec PyProof.Rows L2 DL
abbrev N_is_whole : List Str := ["value"]
abbrev N_is_row : List Str := ["value", "low", "high"]
abbrev N_is_fraction : List Str := ["value"]
abbrev N_is_place : List Str := ["value"]
abbrev N_is_stretch : List Str := ["value"]
abbrev N_check_point : List Str := ["value"]
abbrev N_check_segment : List Str := ["value"]
abbrev N_sign : List Str := ["number"]
abbrev N_is_less : List Str := ["first", "second"]
abbrev N_is_ahead : List Str := ["first", "second"]
abbrev N_scaled : List Str := ["point", "x", "x_lower", "y", "y_lower", "w"]
abbrev N_crossed : List Str := ["first", "second"]
abbrev N_along : List Str := ["line", "triple"]
abbrev N_side_of : List Str := ["first", "second", "third"]
abbrev N_in_order : List Str := ["segment", "first", "second"]
abbrev N_lies_on : List Str := ["segment", "point", "low", "high"]
abbrev N_is_point : List Str := ["value"]
abbrev N_turn_of : List Str := ["point", "other", "third"]
abbrev N_is_on : List Str := ["segment", "point"]
abbrev N_spring : List Str := ["_law_script", "_law_turn", "_law_mixed", "_law_cell", "_law_own_here"]
abbrev N_draw : List Str := ["_law_spring_here", "_law_many", "_law_digit", "_law_seed"]
abbrev N_one_of : List Str := ["_law_spring_here", "_law_some"]
abbrev N_divisor : List Str := ["_law_one", "_law_two", "_law_far", "_law_rest"]
abbrev N_part : List Str := ["_law_top", "_law_base", "_law_far"]
abbrev N_place : List Str := ["_law_x", "_law_y", "_law_w", "_law_far"]
abbrev N_told : List Str := ["_law_place_here"]
abbrev N_own : List Str := ["_law_told_here", "_law_a", "_law_b", "_law_c", "_law_d"]
abbrev N_side : List Str := ["_law_p", "_law_q", "_law_r", "_law_high"]
abbrev N_l_is_less : List Str := ["_law_p", "_law_q"]
abbrev N_l_lies_on : List Str := ["_law_p", "_law_q", "_law_r", "_law_low", "_law_high"]
abbrev N_odd : List Str := ["_law_spring_here", "_law_nil", "_law_one", "_law_two", "_law_some"]
abbrev N_bent : List Str := ["_law_spring_here", "_law_thing", "_law_at", "_law_branch"]
abbrev N_l_is_whole : List Str := ["_law_thing"]
abbrev N_is_lot : List Str := ["_law_thing", "_law_low", "_law_high"]
abbrev N_l_is_fraction : List Str := ["_law_thing", "_law_each"]
abbrev N_is_told : List Str := ["_law_thing", "_law_each"]
abbrev N_l_sign : List Str := ["_law_whole"]
end LB
namespace LB
open PySem PySem.Spec PyProof.Rows L2 DL
abbrev I (i : Int) : D := .d (.int i)
abbrev Bo (b : Bool) : D := .d (.bool b)
def fr (a b : Int) : PyData := .tuple [.int a, .int b]
def tri (x y w : Int) : PyData := .tuple [.int x, .int y, .int w]
structure Pt where
  (a b c d : Int)
  deriving DecidableEq
def Pt.py (p : Pt) : PyData := .tuple [fr p.a p.b, fr p.c p.d]
def B (n : Nat) (i : Int) : Prop := i.natAbs < 2 ^ n
def gc (a b : Int) : Int := ((Nat.gcd a.natAbs b.natAbs : Nat) : Int)
structure Pt.Ok (p : Pt) : Prop where
  hb : 0 < p.b
  hd : 0 < p.d
  g1 : gc p.a p.b = 1
  g2 : gc p.c p.d = 1
  ba : B 1600 p.a
  bb : B 1600 p.b
  bc : B 1600 p.c
  bd : B 1600 p.d
structure Tr where
  (x y w : Int)
  deriving DecidableEq
def Tr.py (t : Tr) : PyData := tri t.x t.y t.w
structure Tr.Ok (n : Nat) (t : Tr) : Prop where
  hw : 0 < t.w
  bx : B n t.x
  by_ : B n t.y
  bw : B n t.w
def det (p q r : Tr) : Int := p.x * (q.y * r.w - r.y * q.w) - p.y * (q.x * r.w - r.x * q.w) + p.w * (q.x * r.y - r.x * q.y)
def sgn (n : Int) : Int := if n = 0 then 0 else if 0 < n then 1 else -1
/-- the spring: what is left of a great number, the mixed one, how often it was asked -/
def SprL (xs : List D) (n : Nat) : Prop := ∃ x y z : Int, xs = [I x, I y, I z] ∧ 0 ≤ y ∧ y < 2147483629 ∧ 0 ≤ z ∧ z ≤ n
theorem SprL.mono {xs : List D} {n m : Nat} (h : SprL xs n) (hm : n ≤ m) : SprL xs m := by
  obtain ⟨x, y, z, e, h1, h2, h3, h4⟩ := h
  exact ⟨x, y, z, e, h1, h2, h3, by omega⟩
/-- what asks the spring at most c times -/
def spS (c : Nat) (post : D → Prop) (p : Addr) (st : Sto) (Q : Kd) : Prop := ∃ n xs, st p = some xs ∧ SprL xs n ∧ n + c < 2 ^ 40 ∧ ∀ d xs', post d → SprL xs' (n + c) → Q d (put st p xs')
def sp_spring : SpD := fun ds st Q => match ds with
  | [.scr ns, .d (.int t)] => ns.length ≤ 63 ∧ 0 ≤ t ∧ t < 100 ∧ ∀ p xs, st p = none → SprL xs 0 → Q (.own p) (put st p xs)
  | _ => False
def sp_draw : SpD := fun ds st Q => match ds with
  | [.own p, .d (.int m)] => 0 < m ∧ m < 2 ^ 40 ∧ spS 1 (fun d => ∃ i, d = I i ∧ 0 ≤ i ∧ i < m) p st Q
  | _ => False
def sp_one_of : SpD := fun ds st Q => match ds with
  | [.own p, .d (.list xs)] => 0 < xs.length ∧ xs.length < 1000 ∧ spS 1 (fun d => ∃ x, d = .d x ∧ x ∈ xs) p st Q
  | [.own p, .d (.tuple xs)] => 0 < xs.length ∧ xs.length < 1000 ∧ spS 1 (fun d => ∃ x, d = .d x ∧ x ∈ xs) p st Q
  | _ => False
def sp_odd : SpD := fun ds st Q => match ds with
  | [.own p] => spS 1 (fun d => ∃ x, d = .d x) p st Q
  | _ => False
/-- data that may be bent: no dicts, no great numbers, k deep -/
def Plain : Nat → PyData → Prop
  | _, .int i => B 1000 i
  | _, .str _ => True
  | k + 1, .tuple xs => xs.length ≤ 1000 ∧ SeqAt.shaped (.tuple xs) = true ∧ ∀ x ∈ xs, Plain k x
  | _, _ => False
def sp_bentK (k : Nat) : SpD := fun ds st Q => match ds with
  | [.own p, .d x] => Plain k x ∧ spS (2 * k + 2) (fun d => ∃ x, d = .d x) p st Q
  | _ => False
def sp_bent : SpD := sp_bentK 2
def sp_divisor : SpD := fun ds st Q => match ds with
  | [.d (.int a), .d (.int b)] => Q (I (gc a b)) st
  | _ => False
def partD (t b : Int) : PyData := fr (t / gc t b) (b / gc t b)
def sp_part : SpD := fun ds st Q => match ds with
  | [.d (.int t), .d (.int b)] => 0 < b ∧ B 8000 t ∧ B 8000 b ∧ Q (.d (partD t b)) st
  | _ => False
def placeT (x y w : Int) : Tr := ⟨x / gc (gc x y) w, y / gc (gc x y) w, w / gc (gc x y) w⟩
def placeS (x y w : Int) : Tr := if 0 < w then placeT x y w else placeT (-x) (-y) (-w)
def sp_place : SpD := fun ds st Q => match ds with
  | [.d (.int x), .d (.int y), .d (.int w)] => w ≠ 0 ∧ B 8000 x ∧ B 8000 y ∧ B 8000 w ∧ Q (.d (placeS x y w).py) st
  | _ => False
def toldP (t : Tr) : Pt := ⟨t.x / gc t.x t.w, t.w / gc t.x t.w, t.y / gc t.y t.w, t.w / gc t.y t.w⟩
def ownT (p : Pt) : Tr := placeT (p.a * p.d) (p.c * p.b) (p.b * p.d)
/-! the program's own looks -/
def isW : PyData → Bool
  | .int _ => true
  | _ => false
def isRow (lo hi : Int) : PyData → Bool
  | .tuple xs => decide (lo ≤ xs.length) && decide ((xs.length : Int) ≤ hi)
  | _ => false
def isFr : PyData → Bool
  | .tuple [.int a, .int b] => decide (0 < b) && decide (gc a b = 1)
  | _ => false
def isPl : PyData → Bool
  | .tuple [p, q] => isFr p && isFr q
  | _ => false
def sp_is_whole : SpD := fun ds st Q => match ds with
  | [.d x] => Q (Bo (isW x)) st
  | _ => False
def sp_l_is_whole : SpD := sp_is_whole
def sp_is_row : SpD := fun ds st Q => match ds with
  | [.d x, .d (.int lo), .d (.int hi)] => Q (Bo (isRow lo hi x)) st
  | _ => False
def sp_is_lot : SpD := sp_is_row
def sp_is_fraction : SpD := fun ds st Q => match ds with
  | [.d x] => Q (Bo (isFr x)) st
  | _ => False
def sp_l_is_fraction : SpD := sp_is_fraction
def sp_is_place : SpD := fun ds st Q => match ds with
  | [.d x] => Q (Bo (isPl x)) st
  | _ => False
def sp_is_point : SpD := sp_is_place
def sp_is_told : SpD := sp_is_place
end LB
namespace LB
open PySem PySem.Spec PyProof.Rows L2 DL
def sp_told : SpD := fun ds st Q => match ds with
  | [.d (.tuple [.int x, .int y, .int w])] => Tr.Ok 1600 ⟨x, y, w⟩ ∧ Q (.d (toldP ⟨x, y, w⟩).py) st
  | _ => False
def sp_own : SpD := fun ds st Q => match ds with
  | [.d (.tuple [.tuple [.int a, .int b], .tuple [.int c, .int d]])] => 0 < b ∧ 0 < d ∧ B 1600 a ∧ B 1600 b ∧ B 1600 c ∧ B 1600 d ∧ Q (.d (ownT ⟨a, b, c, d⟩).py) st
  | _ => False
def sp_side : SpD := fun ds st Q => match ds with
  | [.d (.tuple [.int x, .int y, .int w]), .d (.tuple [.int x', .int y', .int w']), .d (.tuple [.int x'', .int y'', .int w''])] => (B 4000 x ∧ B 4000 y ∧ B 4000 w) ∧ (B 4000 x' ∧ B 4000 y' ∧ B 4000 w') ∧ (B 4000 x'' ∧ B 4000 y'' ∧ B 4000 w'') ∧ Q (I (det ⟨x, y, w⟩ ⟨x', y', w'⟩ ⟨x'', y'', w''⟩)) st
  | _ => False
def lessT (p q : Tr) : Bool := if p.x * q.w ≠ q.x * p.w then decide (p.x * q.w < q.x * p.w) else decide (p.y * q.w < q.y * p.w)
def sp_l_is_less : SpD := fun ds st Q => match ds with
  | [.d (.tuple [.int x, .int y, .int w]), .d (.tuple [.int x', .int y', .int w'])] => (B 4000 x ∧ B 4000 y ∧ B 4000 w) ∧ (B 4000 x' ∧ B 4000 y' ∧ B 4000 w') ∧ Q (Bo (lessT ⟨x, y, w⟩ ⟨x', y', w'⟩)) st
  | _ => False
def onT (p q r : Tr) : Bool := if det p q r ≠ 0 then false else if lessT p q then !lessT r p && !lessT q r else !lessT r q && !lessT p r
def sp_l_lies_on : SpD := fun ds st Q => match ds with
  | [.d (.tuple [.int x, .int y, .int w]), .d (.tuple [.int x', .int y', .int w']), .d (.tuple [.int x'', .int y'', .int w''])] => (B 4000 x ∧ B 4000 y ∧ B 4000 w) ∧ (B 4000 x' ∧ B 4000 y' ∧ B 4000 w') ∧ (B 4000 x'' ∧ B 4000 y'' ∧ B 4000 w'') ∧ Q (Bo (onT ⟨x, y, w⟩ ⟨x', y', w'⟩ ⟨x'', y'', w''⟩)) st
  | _ => False
def sp_l_sign : SpD := fun ds st Q => match ds with
  | [.d (.int n)] => Q (I (sgn n)) st
  | _ => False
def sp_sign : SpD := sp_l_sign
/-! the program's geometry -/
def scT (p : Pt) : Tr := ⟨p.a * (((Nat.lcm p.b.natAbs p.d.natAbs : Nat) : Int) / p.b), p.c * (((Nat.lcm p.b.natAbs p.d.natAbs : Nat) : Int) / p.d), ((Nat.lcm p.b.natAbs p.d.natAbs : Nat) : Int)⟩
def sp_scaled : SpD := fun ds st Q => match ds with
  | [.d (.tuple [.tuple [.int a, .int b], .tuple [.int c, .int d]])] => 0 < b ∧ 0 < d ∧ B 1600 a ∧ B 1600 b ∧ B 1600 c ∧ B 1600 d ∧ Q (.d (scT ⟨a, b, c, d⟩).py) st
  | _ => False
def crT (p q : Tr) : Tr := ⟨p.y * q.w - p.w * q.y, p.w * q.x - p.x * q.w, p.x * q.y - p.y * q.x⟩
def sp_crossed : SpD := fun ds st Q => match ds with
  | [.d (.tuple [.int x, .int y, .int w]), .d (.tuple [.int x', .int y', .int w'])] => (B 8000 x ∧ B 8000 y ∧ B 8000 w) ∧ (B 8000 x' ∧ B 8000 y' ∧ B 8000 w') ∧ Q (.d (crT ⟨x, y, w⟩ ⟨x', y', w'⟩).py) st
  | _ => False
def alT (l t : Tr) : Int := l.x * t.x + l.y * t.y + l.w * t.w
def sp_along : SpD := fun ds st Q => match ds with
  | [.d (.tuple [.int x, .int y, .int w]), .d (.tuple [.int x', .int y', .int w'])] => (B 20000 x ∧ B 20000 y ∧ B 20000 w) ∧ (B 20000 x' ∧ B 20000 y' ∧ B 20000 w') ∧ Q (I (alT ⟨x, y, w⟩ ⟨x', y', w'⟩)) st
  | _ => False
def sideP (p q r : Pt) : Int := sgn (alT (crT (scT p) (scT q)) (scT r))
/-- three points as arguments -/
def sp_side_of : SpD := fun ds st Q => ∃ p q r : Pt, ds = [.d p.py, .d q.py, .d r.py] ∧ p.Ok ∧ q.Ok ∧ r.Ok ∧ Q (I (sideP p q r)) st
def sp_turn_of : SpD := sp_side_of
def sp_is_less : SpD := fun ds st Q => match ds with
  | [.d (.tuple [.int a, .int b]), .d (.tuple [.int c, .int d])] => (B 1600 a ∧ B 1600 b ∧ B 1600 c ∧ B 1600 d) ∧ Q (Bo (decide (a * d < c * b))) st
  | _ => False
def ahead (p q : Pt) : Bool := if p.a = q.a ∧ p.b = q.b then decide (p.c * q.d < q.c * p.d) else decide (p.a * q.b < q.a * p.b)
def sp_is_ahead : SpD := fun ds st Q => ∃ p q : Pt, ds = [.d p.py, .d q.py] ∧ p.Ok ∧ q.Ok ∧ Q (Bo (ahead p q)) st
def sp_in_order : SpD := fun ds st Q => ∃ p q : Pt, ds = [.d (.tuple [p.py, q.py])] ∧ p.Ok ∧ q.Ok ∧ Q (.d (if ahead q p then .tuple [q.py, p.py] else .tuple [p.py, q.py])) st
def onP (p q r : Pt) : Bool := if sideP p q r ≠ 0 then false else if ahead q p then !ahead r q && !ahead p r else !ahead r p && !ahead q r
def sp_lies_on : SpD := fun ds st Q => ∃ p q r : Pt, ds = [.d (.tuple [p.py, q.py]), .d r.py] ∧ p.Ok ∧ q.Ok ∧ r.Ok ∧ Q (Bo (onP p q r)) st
def sp_is_on : SpD := fun ds st Q => ∃ p q r : Pt, ds = [.d (.tuple [p.py, q.py]), .d r.py] ∧ p.Ok ∧ q.Ok ∧ r.Ok ∧ p ≠ q ∧ Q (Bo (onP p q r)) st
def sp_is_stretch : SpD := fun ds st Q => ∃ p q : Pt, ds = [.d (.tuple [p.py, q.py])] ∧ p.Ok ∧ q.Ok ∧ p ≠ q ∧ Q (Bo true) st
def sp_check_point : SpD := fun ds st Q => ∃ p : Pt, ds = [.d p.py] ∧ p.Ok ∧ Q (.d .none) st
def sp_check_segment : SpD := fun ds st Q => ∃ p q : Pt, ds = [.d (.tuple [p.py, q.py])] ∧ p.Ok ∧ q.Ok ∧ p ≠ q ∧ Q (.d .none) st
end LB
namespace LB
open PySem PySem.Spec PyProof.Rows L2 DL
def b_is_whole : TSd := (dRet (dAnd (dIs "int" (dVar 0)) (dNot (dIs "bool" (dVar 0)))))
def b_is_row : TSd := (dRet (dAnd (dIs "tuple" (dVar 0)) (dChain rLeD rLeD (dVar 1) (dCall cLen (dCons (dVar 0) dNil)) (dVar 2))))
def b_is_fraction_1 : TSd := (dIfS (dOrT (dNotT (dTst (dFn0 sp_is_row (dCons (dVar 0) (dCons (dC (.int 2)) (dCons (dC (.int 2)) dNil)))))) (dOrT (dNotT (dTst (dFn0 sp_is_whole (dCons (dBin rIxD (dVar 0) (dC (.int 0))) dNil)))) (dNotT (dTst (dFn0 sp_is_whole (dCons (dBin rIxD (dVar 0) (dC (.int 1))) dNil)))))) (dRet (dC (.bool false))) dNext)
def b_is_fraction_2 : TSd := (dRet (dAnd (dBin rGtD (dBin rIxD (dVar 0) (dC (.int 1))) (dC (.int 0))) (dBin rEqV (dCall cGcd (dCons (dBin rIxD (dVar 0) (dC (.int 0))) (dCons (dBin rIxD (dVar 0) (dC (.int 1))) dNil))) (dC (.int 1)))))
def b_is_fraction : TSd := (dSeq b_is_fraction_1 b_is_fraction_2)
def b_is_place : TSd := (dRet (dAnd (dFn0 sp_is_row (dCons (dVar 0) (dCons (dC (.int 2)) (dCons (dC (.int 2)) dNil)))) (dAnd (dFn0 sp_is_fraction (dCons (dBin rIxD (dVar 0) (dC (.int 0))) dNil)) (dFn0 sp_is_fraction (dCons (dBin rIxD (dVar 0) (dC (.int 1))) dNil)))))
def b_is_stretch : TSd := (dRet (dAnd (dFn0 sp_is_row (dCons (dVar 0) (dCons (dC (.int 2)) (dCons (dC (.int 2)) dNil)))) (dAnd (dFn0 sp_is_place (dCons (dBin rIxD (dVar 0) (dC (.int 0))) dNil)) (dAnd (dFn0 sp_is_place (dCons (dBin rIxD (dVar 0) (dC (.int 1))) dNil)) (dBin rNeV (dBin rIxD (dVar 0) (dC (.int 0))) (dBin rIxD (dVar 0) (dC (.int 1))))))))
def b_check_point : TSd := (dIfS (dNotT (dTst (dFn0 sp_is_place (dCons (dVar 0) dNil)))) dNever dNext)
def b_check_segment : TSd := (dIfS (dNotT (dTst (dFn0 sp_is_stretch (dCons (dVar 0) dNil)))) dNever dNext)
def b_sign_1 : TSd := (dIfS (dTst (dBin rEqV (dVar 0) (dC (.int 0)))) (dRet (dC (.int 0))) dNext)
def b_sign_2 : TSd := (dRet (dIf (dTst (dBin rGtD (dVar 0) (dC (.int 0)))) (dC (.int 1)) (dNeg (dC (.int 1)))))
def b_sign : TSd := (dSeq b_sign_1 b_sign_2)
def b_is_less : TSd := (dRet (dBin rLtD (dBin rMulD (dBin rIxD (dVar 0) (dC (.int 0))) (dBin rIxD (dVar 1) (dC (.int 1)))) (dBin rMulD (dBin rIxD (dVar 1) (dC (.int 0))) (dBin rIxD (dVar 0) (dC (.int 1))))))
def b_is_ahead_1 : TSd := (dIfS (dTst (dBin rNeV (dBin rIxD (dVar 0) (dC (.int 0))) (dBin rIxD (dVar 1) (dC (.int 0))))) (dRet (dFn0 sp_is_less (dCons (dBin rIxD (dVar 0) (dC (.int 0))) (dCons (dBin rIxD (dVar 1) (dC (.int 0))) dNil)))) dNext)
def b_is_ahead_2 : TSd := (dRet (dFn0 sp_is_less (dCons (dBin rIxD (dVar 0) (dC (.int 1))) (dCons (dBin rIxD (dVar 1) (dC (.int 1))) dNil))))
def b_is_ahead : TSd := (dSeq b_is_ahead_1 b_is_ahead_2)
def b_scaled_1 : TSd := (dAsg (dVar 0) (hTup 2 (hCons (hTup 2 (hCons (hName 1) (hCons (hName 2) hNil))) (hCons (hTup 2 (hCons (hName 3) (hCons (hName 4) hNil))) hNil))))
def b_scaled_2 : TSd := (dAsg (dCall cLcm (dCons (dVar 2) (dCons (dVar 4) dNil))) (hName 5))
def b_scaled_3 : TSd := (dRet (dTup (dCons (dBin rMulD (dVar 1) (dBin rDivD (dVar 5) (dVar 2))) (dCons (dBin rMulD (dVar 3) (dBin rDivD (dVar 5) (dVar 4))) (dCons (dVar 5) dNil)))))
def b_scaled : TSd := (dSeq b_scaled_1 (dSeq b_scaled_2 b_scaled_3))
def b_crossed : TSd := (dRet (dTup (dCons (dBin rSubD (dBin rMulD (dBin rIxD (dVar 0) (dC (.int 1))) (dBin rIxD (dVar 1) (dC (.int 2)))) (dBin rMulD (dBin rIxD (dVar 0) (dC (.int 2))) (dBin rIxD (dVar 1) (dC (.int 1))))) (dCons (dBin rSubD (dBin rMulD (dBin rIxD (dVar 0) (dC (.int 2))) (dBin rIxD (dVar 1) (dC (.int 0)))) (dBin rMulD (dBin rIxD (dVar 0) (dC (.int 0))) (dBin rIxD (dVar 1) (dC (.int 2))))) (dCons (dBin rSubD (dBin rMulD (dBin rIxD (dVar 0) (dC (.int 0))) (dBin rIxD (dVar 1) (dC (.int 1)))) (dBin rMulD (dBin rIxD (dVar 0) (dC (.int 1))) (dBin rIxD (dVar 1) (dC (.int 0))))) dNil)))))
def b_along : TSd := (dRet (dBin rAddD (dBin rAddD (dBin rMulD (dBin rIxD (dVar 0) (dC (.int 0))) (dBin rIxD (dVar 1) (dC (.int 0)))) (dBin rMulD (dBin rIxD (dVar 0) (dC (.int 1))) (dBin rIxD (dVar 1) (dC (.int 1))))) (dBin rMulD (dBin rIxD (dVar 0) (dC (.int 2))) (dBin rIxD (dVar 1) (dC (.int 2))))))
def b_side_of : TSd := (dRet (dFn0 sp_sign (dCons (dFn0 sp_along (dCons (dFn0 sp_crossed (dCons (dFn0 sp_scaled (dCons (dVar 0) dNil)) (dCons (dFn0 sp_scaled (dCons (dVar 1) dNil)) dNil))) (dCons (dFn0 sp_scaled (dCons (dVar 2) dNil)) dNil))) dNil)))
def b_in_order_1 : TSd := (dAsg (dVar 0) (hTup 2 (hCons (hName 1) (hCons (hName 2) hNil))))
def b_in_order_2 : TSd := (dRet (dIf (dTst (dFn0 sp_is_ahead (dCons (dVar 2) (dCons (dVar 1) dNil)))) (dTup (dCons (dVar 2) (dCons (dVar 1) dNil))) (dTup (dCons (dVar 1) (dCons (dVar 2) dNil)))))
def b_in_order : TSd := (dSeq b_in_order_1 b_in_order_2)
def b_lies_on_1 : TSd := (dIfS (dTst (dBin rNeV (dFn0 sp_side_of (dCons (dBin rIxD (dVar 0) (dC (.int 0))) (dCons (dBin rIxD (dVar 0) (dC (.int 1))) (dCons (dVar 1) dNil)))) (dC (.int 0)))) (dRet (dC (.bool false))) dNext)
def b_lies_on_2 : TSd := (dAsg (dFn0 sp_in_order (dCons (dVar 0) dNil)) (hTup 2 (hCons (hName 2) (hCons (hName 3) hNil))))
def b_lies_on_3 : TSd := (dRet (dAnd (dNot (dFn0 sp_is_ahead (dCons (dVar 1) (dCons (dVar 2) dNil)))) (dNot (dFn0 sp_is_ahead (dCons (dVar 3) (dCons (dVar 1) dNil))))))
def b_lies_on : TSd := (dSeq b_lies_on_1 (dSeq b_lies_on_2 b_lies_on_3))
def b_is_point : TSd := (dRet (dFn0 sp_is_place (dCons (dVar 0) dNil)))
def b_turn_of_1 : TSd := (dDrop (dFn0 sp_check_point (dCons (dVar 0) dNil)))
def b_turn_of_2 : TSd := (dDrop (dFn0 sp_check_point (dCons (dVar 1) dNil)))
def b_turn_of_3 : TSd := (dDrop (dFn0 sp_check_point (dCons (dVar 2) dNil)))
def b_turn_of_4 : TSd := (dRet (dFn0 sp_side_of (dCons (dVar 0) (dCons (dVar 1) (dCons (dVar 2) dNil)))))
def b_turn_of : TSd := (dSeq b_turn_of_1 (dSeq b_turn_of_2 (dSeq b_turn_of_3 b_turn_of_4)))
def b_is_on_1 : TSd := (dDrop (dFn0 sp_check_segment (dCons (dVar 0) dNil)))
def b_is_on_2 : TSd := (dDrop (dFn0 sp_check_point (dCons (dVar 1) dNil)))
def b_is_on_3 : TSd := (dRet (dFn0 sp_lies_on (dCons (dVar 0) (dCons (dVar 1) dNil))))
def b_is_on : TSd := (dSeq b_is_on_1 (dSeq b_is_on_2 b_is_on_3))
def b_spring_1 (c : Int) : TSd := (dAsg (dBin rAddD (dC (.int c)) (dBin rMulD (dC (.int 9241)) (dVar 1))) (hName 2))
def b_spring_2 : TSd := (dFor (dIter (dSl (dVar 0) dNoP (dPart (dC (.int 9))))) (hName 3) (dAsg (dBin rModD (dCall cInt (dCons (dBin rAddD (dBin rAddD (dBin rMulD (dVar 2) (dC (.int 58027))) (dBin rModD (dCall cInt (dCons (dVar 3) dNil)) (dC (.int 2147483587)))) (dC (.int 19))) dNil)) (dC (.int 2147483629))) (hName 2)))
def b_spring_3 : TSd := (dAsg (dIf (dTst (dBin rLtD (dVar 1) (dCall cLen (dCons (dVar 0) dNil)))) (dCall cInt (dCons (dBin rIxD (dVar 0) (dVar 1)) dNil)) (dC (.int 0))) (hName 4))
def b_spring_4 : TSd := (dAsg (dBin rModD (dCall cInt (dCons (dBin rAddD (dBin rAddD (dBin rMulD (dVar 2) (dC (.int 61))) (dBin rMulD (dBin rModD (dCall cInt (dCons (dVar 4) dNil)) (dC (.int 2147483587))) (dC (.int 30011)))) (dC (.int 7))) dNil)) (dC (.int 2147483629))) (hName 2))
def b_spring_5 : TSd := (dRet (dLst (dCons (dIf (dOrT (dTst (dBin rLtD (dVar 4) (dC (.int 0)))) (dTst (dBin rGeD (dVar 4) (dBin rPowD (dC (.int 10)) (dC (.int 15)))))) (dCall cAbs (dCons (dVar 4) dNil)) (dC (.int 0))) (dCons (dVar 2) (dCons (dC (.int 0)) dNil)))))
def b_spring (c : Int) : TSd := (dSeq (b_spring_1 c) (dSeq b_spring_2 (dSeq b_spring_3 (dSeq b_spring_4 b_spring_5))))
def b_draw_1 : TSd := (dIfS (dTst (dBin rGtD (dBin rIxD (dVar 0) (dC (.int 0))) (dC (.int 0)))) (dSeq (dAsg (dCall cDivmod (dCons (dBin rIxD (dVar 0) (dC (.int 0))) (dCons (dVar 1) dNil))) (hTup 2 (hCons (hSub (dVar 0) (dC (.int 0))) (hCons (hName 2) hNil)))) (dRet (dVar 2))) dNext)
def b_draw_2 : TSd := (dAsg (dBin rAddD (dBin rIxD (dVar 0) (dC (.int 2))) (dC (.int 1))) (hSub (dVar 0) (dC (.int 2))))
def b_draw_3 : TSd := (dAsg (dBin rModD (dCall cInt (dCons (dBin rAddD (dBin rIxD (dVar 0) (dC (.int 1))) (dBin rMulD (dC (.int 70003)) (dBin rIxD (dVar 0) (dC (.int 2))))) dNil)) (dC (.int 2147483629))) (hName 3))
def b_draw_4 : TSd := (dAsg (dBin rModD (dCall cInt (dCons (dBin rAddD (dBin rMulD (dVar 3) (dBin rAddD (dBin rModD (dCall cInt (dCons (dVar 3) dNil)) (dC (.int 6007))) (dC (.int 50021)))) (dBin rMulD (dC (.int 29)) (dBin rIxD (dVar 0) (dC (.int 2))))) dNil)) (dC (.int 2147483629))) (hSub (dVar 0) (dC (.int 1))))
def b_draw_5 : TSd := (dRet (dBin rModD (dCall cInt (dCons (dBin rDivD (dBin rIxD (dVar 0) (dC (.int 1))) (dC (.int 769))) dNil)) (dVar 1)))
def b_draw : TSd := (dSeq b_draw_1 (dSeq b_draw_2 (dSeq b_draw_3 (dSeq b_draw_4 b_draw_5))))
def b_one_of : TSd := (dRet (dBin rIxD (dVar 1) (dFn0 sp_draw (dCons (dVar 0) (dCons (dCall cLen (dCons (dVar 1) dNil)) dNil)))))
def b_divisor_1 : TSd := (dPar 2 3 (dCons (dCall cAbs (dCons (dVar 0) dNil)) (dCons (dCall cAbs (dCons (dVar 1) dNil)) dNil)))
def b_divisor_2 : TSd := (dWhile (dTst (dBin rNeV (dVar 3) (dC (.int 0)))) (dPar 2 3 (dCons (dVar 3) (dCons (dBin rModD (dCall cInt (dCons (dVar 2) dNil)) (dVar 3)) dNil))))
def b_divisor_3 : TSd := (dRet (dVar 2))
def b_divisor : TSd := (dSeq b_divisor_1 (dSeq b_divisor_2 b_divisor_3))
def b_part_1 : TSd := (dAsg (dIf (dTst (dBin rGtD (dVar 1) (dC (.int 0)))) (dFn0 sp_divisor (dCons (dVar 0) (dCons (dVar 1) dNil))) (dBin rSubD (dC (.int 0)) (dFn0 sp_divisor (dCons (dVar 0) (dCons (dVar 1) dNil))))) (hName 2))
def b_part_2 : TSd := (dRet (dTup (dCons (dBin rDivD (dVar 0) (dVar 2)) (dCons (dBin rDivD (dVar 1) (dVar 2)) dNil))))
def b_part : TSd := (dSeq b_part_1 b_part_2)
def b_place_1 : TSd := (dAsg (dIf (dTst (dBin rGtD (dVar 2) (dC (.int 0)))) (dFn0 sp_divisor (dCons (dFn0 sp_divisor (dCons (dVar 0) (dCons (dVar 1) dNil))) (dCons (dVar 2) dNil))) (dBin rSubD (dC (.int 0)) (dFn0 sp_divisor (dCons (dFn0 sp_divisor (dCons (dVar 0) (dCons (dVar 1) dNil))) (dCons (dVar 2) dNil))))) (hName 3))
def b_place_2 : TSd := (dRet (dTup (dCons (dBin rDivF (dVar 0) (dVar 3)) (dCons (dBin rDivF (dVar 1) (dVar 3)) (dCons (dBin rDivF (dVar 2) (dVar 3)) dNil)))))
def b_place : TSd := (dSeq b_place_1 b_place_2)
def b_told : TSd := (dRet (dTup (dCons (dFn0 sp_part (dCons (dBin rIxD (dVar 0) (dC (.int 0))) (dCons (dBin rIxD (dVar 0) (dC (.int 2))) dNil))) (dCons (dFn0 sp_part (dCons (dBin rIxD (dVar 0) (dC (.int 1))) (dCons (dBin rIxD (dVar 0) (dC (.int 2))) dNil))) dNil))))
def b_own_1 : TSd := (dAsg (dVar 0) (hTup 2 (hCons (hTup 2 (hCons (hName 1) (hCons (hName 2) hNil))) (hCons (hTup 2 (hCons (hName 3) (hCons (hName 4) hNil))) hNil))))
def b_own_2 : TSd := (dRet (dFn0 sp_place (dCons (dBin rMulD (dVar 1) (dVar 4)) (dCons (dBin rMulD (dVar 3) (dVar 2)) (dCons (dBin rMulD (dVar 2) (dVar 4)) dNil)))))
def b_own : TSd := (dSeq b_own_1 b_own_2)
def b_side_1 : TSd := (dAsg (dBin rSubD (dBin rMulD (dBin rIxD (dVar 0) (dC (.int 0))) (dBin rSubD (dBin rMulD (dBin rIxD (dVar 1) (dC (.int 1))) (dBin rIxD (dVar 2) (dC (.int 2)))) (dBin rMulD (dBin rIxD (dVar 2) (dC (.int 1))) (dBin rIxD (dVar 1) (dC (.int 2)))))) (dBin rMulD (dBin rIxD (dVar 0) (dC (.int 1))) (dBin rSubD (dBin rMulD (dBin rIxD (dVar 1) (dC (.int 0))) (dBin rIxD (dVar 2) (dC (.int 2)))) (dBin rMulD (dBin rIxD (dVar 2) (dC (.int 0))) (dBin rIxD (dVar 1) (dC (.int 2))))))) (hName 3))
def b_side_2 : TSd := (dRet (dBin rAddD (dVar 3) (dBin rMulD (dBin rIxD (dVar 0) (dC (.int 2))) (dBin rSubD (dBin rMulD (dBin rIxD (dVar 1) (dC (.int 0))) (dBin rIxD (dVar 2) (dC (.int 1)))) (dBin rMulD (dBin rIxD (dVar 2) (dC (.int 0))) (dBin rIxD (dVar 1) (dC (.int 1))))))))
def b_side : TSd := (dSeq b_side_1 b_side_2)
def b_l_is_less_1 : TSd := (dIfS (dTst (dBin rNeV (dBin rMulD (dBin rIxD (dVar 0) (dC (.int 0))) (dBin rIxD (dVar 1) (dC (.int 2)))) (dBin rMulD (dBin rIxD (dVar 1) (dC (.int 0))) (dBin rIxD (dVar 0) (dC (.int 2)))))) (dRet (dBin rLtD (dBin rMulD (dBin rIxD (dVar 0) (dC (.int 0))) (dBin rIxD (dVar 1) (dC (.int 2)))) (dBin rMulD (dBin rIxD (dVar 1) (dC (.int 0))) (dBin rIxD (dVar 0) (dC (.int 2)))))) dNext)
def b_l_is_less_2 : TSd := (dRet (dBin rLtD (dBin rMulD (dBin rIxD (dVar 0) (dC (.int 1))) (dBin rIxD (dVar 1) (dC (.int 2)))) (dBin rMulD (dBin rIxD (dVar 1) (dC (.int 1))) (dBin rIxD (dVar 0) (dC (.int 2))))))
def b_l_is_less : TSd := (dSeq b_l_is_less_1 b_l_is_less_2)
def b_l_lies_on_1 : TSd := (dIfS (dTst (dBin rNeV (dFn0 sp_side (dCons (dVar 0) (dCons (dVar 1) (dCons (dVar 2) dNil)))) (dC (.int 0)))) (dRet (dC (.bool false))) dNext)
def b_l_lies_on_2 : TSd := (dAsg (dIf (dTst (dFn0 sp_l_is_less (dCons (dVar 0) (dCons (dVar 1) dNil)))) (dTup (dCons (dVar 0) (dCons (dVar 1) dNil))) (dTup (dCons (dVar 1) (dCons (dVar 0) dNil)))) (hTup 2 (hCons (hName 3) (hCons (hName 4) hNil))))
def b_l_lies_on_3 : TSd := (dRet (dAnd (dNot (dFn0 sp_l_is_less (dCons (dVar 2) (dCons (dVar 3) dNil)))) (dNot (dFn0 sp_l_is_less (dCons (dVar 4) (dCons (dVar 2) dNil))))))
def b_l_lies_on : TSd := (dSeq b_l_lies_on_1 (dSeq b_l_lies_on_2 b_l_lies_on_3))
def b_odd_1 : TSd := (dAsg (dTup (dCons (dTup (dCons (dTup (dCons (dC (.int 0)) (dCons (dC (.int 1)) dNil))) (dCons (dTup (dCons (dC (.int 0)) (dCons (dC (.int 1)) dNil))) dNil))) (dCons (dTup (dCons (dTup (dCons (dC (.int 1)) (dCons (dC (.int 1)) dNil))) (dCons (dTup (dCons (dC (.int 0)) (dCons (dC (.int 1)) dNil))) dNil))) (dCons (dTup (dCons (dTup (dCons (dNeg (dC (.int 3))) (dCons (dC (.int 2)) dNil))) (dCons (dTup (dCons (dC (.int 5)) (dCons (dC (.int 7)) dNil))) dNil))) dNil)))) (hTup 3 (hCons (hName 1) (hCons (hName 2) (hCons (hName 3) hNil)))))
def b_odd_2 : TSd := (dAsg (dLstV (dCons (dC .none) (dCons (dC (.bool true)) (dCons (dC (.bool false)) (dCons (dC (.int 0)) (dCons (dC (.int 1)) (dCons (dNeg (dC (.int 1))) (dCons (dBin rPowD (dC (.int 10)) (dC (.int 25))) (dCons (dC (.str "")) (dCons (dC (.str "A")) (dCons (dC (.str "E")) (dCons (dC (.str "a")) (dCons (dC (.str "spot")) (dCons (dC (.str "vertex")) (dCons (dC (.str "face")) (dCons (dTup dNil) (dCons (dTup (dCons (dC (.int 0)) dNil)) (dCons (dTup (dCons (dC (.int 0)) (dCons (dC (.int 1)) dNil))) (dCons (dTup (dCons (dC (.int 1)) (dCons (dC (.int 1)) dNil))) (dCons (dTup (dCons (dC (.int 2)) (dCons (dC (.int 2)) dNil))) (dCons (dTup (dCons (dC (.int 0)) (dCons (dC (.int 3)) dNil))) (dCons (dTup (dCons (dC (.int 0)) (dCons (dC (.int 0)) dNil))) (dCons (dTup (dCons (dC (.int 1)) (dCons (dC (.int 0)) dNil))) (dCons (dTup (dCons (dC (.int 3)) (dCons (dNeg (dC (.int 2))) dNil))) (dCons (dTup (dCons (dC (.bool true)) (dCons (dC (.int 1)) dNil))) (dCons (dTup (dCons (dC (.int 0)) (dCons (dC (.bool true)) dNil))) (dCons (dTup (dCons (dC (.str "0")) (dCons (dC (.int 1)) dNil))) (dCons (dTup (dCons (dC .none) (dCons (dC (.int 1)) dNil))) (dCons (dVar 1) (dCons (dVar 2) (dCons (dVar 3) (dCons (dTup (dCons (dVar 1) (dCons (dVar 2) dNil))) (dCons (dTup (dCons (dVar 3) (dCons (dVar 1) dNil))) (dCons (dTup (dCons (dVar 1) (dCons (dVar 1) dNil))) (dCons (dTup (dCons (dVar 1) (dCons (dVar 2) (dCons (dVar 3) dNil)))) (dCons (dTup (dCons (dVar 2) (dCons (dVar 3) (dCons (dVar 2) dNil)))) (dCons (dTup (dCons (dTup (dCons (dC (.int 0)) (dCons (dC (.int 1)) dNil))) dNil)) (dCons (dTup (dCons (dTup (dCons (dC (.int 0)) (dCons (dC (.int 1)) dNil))) (dCons (dTup (dCons (dC (.int 0)) (dCons (dC (.int 2)) dNil))) dNil))) (dCons (dTup (dCons (dTup (dCons (dC (.int 0)) (dCons (dC (.int 1)) dNil))) (dCons (dTup (dCons (dC (.int 1)) (dCons (dC (.int 1)) dNil))) (dCons (dTup (dCons (dC (.int 0)) (dCons (dC (.int 1)) dNil))) dNil)))) (dCons (dTup (dCons (dLstV (dCons (dC (.int 0)) (dCons (dC (.int 1)) dNil))) (dCons (dTup (dCons (dC (.int 0)) (dCons (dC (.int 1)) dNil))) dNil))) (dCons (dLstV dNil) (dCons (dLstV (dCons (dC (.int 0)) (dCons (dC (.int 1)) dNil))) (dCons (dLstV (dCons (dTup (dCons (dC (.int 0)) (dCons (dC (.int 1)) dNil))) (dCons (dTup (dCons (dC (.int 0)) (dCons (dC (.int 1)) dNil))) dNil))) (dCons (dDict []) (dCons (dDict [(.str "A", .int 1)]) (dCons (dTup (dCons (dC (.str "vertex")) (dCons (dC (.int 0)) dNil))) (dCons (dTup (dCons (dC (.str "edge")) (dCons (dC (.int 0)) dNil))) (dCons (dTup (dCons (dC (.str "face")) (dCons (dC (.int 0)) dNil))) (dCons (dTup (dCons (dC (.str "face")) (dCons (dC (.int 1)) dNil))) (dCons (dTup (dCons (dC (.str "face")) (dCons (dC (.bool true)) dNil))) (dCons (dTup (dCons (dC (.str "vertex")) (dCons (dNeg (dC (.int 1))) dNil))) (dCons (dTup (dCons (dC (.str "cell")) (dCons (dC (.int 0)) dNil))) (dCons (dLstV (dCons (dC (.str "face")) (dCons (dC (.int 0)) dNil))) (dCons (dTup (dCons (dC (.str "spot")) (dCons (dVar 1) dNil))) (dCons (dTup (dCons (dC (.str "spot")) (dCons (dTup (dCons (dVar 1) dNil)) dNil))) (dCons (dTup (dCons (dC (.str "spot")) (dCons (dVar 1) (dCons (dVar 2) dNil)))) (dCons (dTup (dCons (dC (.str "path")) (dCons (dTup (dCons (dVar 1) (dCons (dVar 2) dNil))) dNil))) (dCons (dTup (dCons (dC (.str "path")) (dCons (dTup (dCons (dVar 1) (dCons (dVar 1) dNil))) dNil))) (dCons (dTup (dCons (dC (.str "path")) (dCons (dTup (dCons (dVar 1) dNil)) dNil))) (dCons (dTup (dCons (dC (.str "path")) (dCons (dTup dNil) dNil))) (dCons (dTup (dCons (dC (.str "area")) (dCons (dTup (dCons (dVar 1) (dCons (dVar 2) (dCons (dVar 3) dNil)))) dNil))) (dCons (dTup (dCons (dC (.str "area")) (dCons (dTup (dCons (dVar 1) (dCons (dVar 2) (dCons (dVar 1) dNil)))) dNil))) (dCons (dTup (dCons (dC (.str "area")) (dCons (dTup (dCons (dVar 1) (dCons (dVar 2) dNil))) dNil))) (dCons (dTup (dCons (dC (.str "area")) (dCons (dLstV (dCons (dVar 1) (dCons (dVar 2) (dCons (dVar 3) dNil)))) dNil))) (dCons (dTup (dCons (dC (.str "rim")) (dCons (dTup (dCons (dC (.str "spot")) (dCons (dVar 1) dNil))) dNil))) (dCons (dTup (dCons (dC (.str "rim")) dNil)) (dCons (dTup (dCons (dC (.str "both")) (dCons (dTup (dCons (dC (.str "spot")) (dCons (dVar 1) dNil))) (dCons (dTup (dCons (dC (.str "spot")) (dCons (dVar 2) dNil))) dNil)))) (dCons (dTup (dCons (dC (.str "both")) (dCons (dTup (dCons (dC (.str "spot")) (dCons (dVar 1) dNil))) dNil))) (dCons (dTup (dCons (dC (.str "not")) (dCons (dTup (dCons (dC (.str "spot")) (dCons (dVar 1) dNil))) dNil))) (dCons (dTup (dCons (dC (.str "closure")) (dCons (dC (.str "A")) dNil))) (dCons (dTup (dCons (dC (.str "inner")) (dCons (dTup (dCons (dC (.str "spot")) (dCons (dVar 2) dNil))) (dCons (dTup (dCons (dC (.str "spot")) (dCons (dVar 2) dNil))) dNil)))) (dCons (dTup (dCons (dTup (dCons (dC (.str "A")) (dCons (dTup (dCons (dC (.str "spot")) (dCons (dVar 1) dNil))) dNil))) dNil)) (dCons (dTup (dCons (dTup (dCons (dC (.str "B")) (dCons (dTup (dCons (dC (.str "spot")) (dCons (dVar 1) dNil))) dNil))) (dCons (dTup (dCons (dC (.str "A")) (dCons (dTup (dCons (dC (.str "spot")) (dCons (dVar 1) dNil))) dNil))) dNil))) (dCons (dTup (dCons (dTup (dCons (dC (.str "a")) (dCons (dTup (dCons (dC (.str "spot")) (dCons (dVar 1) dNil))) dNil))) dNil)) (dCons (dTup (dCons (dTup (dCons (dC (.str "A")) (dCons (dVar 1) dNil))) dNil)) (dCons (dTup (dCons (dTup (dCons (dC (.str "A")) (dCons (dTup (dCons (dC (.str "spot")) (dCons (dVar 1) dNil))) dNil))) (dCons (dTup (dCons (dC (.str "A")) (dCons (dTup (dCons (dC (.str "spot")) (dCons (dVar 2) dNil))) dNil))) dNil))) (dCons (dTup (dCons (dTup (dCons (dVar 1) (dCons (dVar 2) dNil))) (dCons (dTup (dCons (dVar 2) (dCons (dVar 1) dNil))) dNil))) (dCons (dTup (dCons (dTup (dCons (dVar 1) (dCons (dVar 1) dNil))) dNil)) dNil)))))))))))))))))))))))))))))))))))))))))))))))))))))))))))))))))))))))))))))) (hName 4))
def b_odd_3 : TSd := (dRet (dFn0 sp_one_of (dCons (dVar 0) (dCons (dVar 4) dNil))))
def b_odd : TSd := (dSeq b_odd_1 (dSeq b_odd_2 b_odd_3))
def b_bent_1 (sp_self : SpD) : TSd := (dIfS (dAndT (dTst (dIs "tuple" (dVar 1))) (dAndT (dTst (dBin rNeV (dVar 1) (dTup dNil))) (dTst (dBin rGtD (dFn0 sp_draw (dCons (dVar 0) (dCons (dC (.int 5)) dNil))) (dC (.int 0)))))) (dSeq (dAsg (dFn0 sp_draw (dCons (dVar 0) (dCons (dCall cLen (dCons (dVar 1) dNil)) dNil))) (hName 2)) (dRet (dBin rAddD (dBin rAddD (dSl (dVar 1) dNoP (dPart (dVar 2))) (dTup (dCons (dFn0 sp_self (dCons (dVar 0) (dCons (dBin rIxD (dVar 1) (dVar 2)) dNil))) dNil))) (dSl (dVar 1) (dPart (dBin rAddD (dVar 2) (dC (.int 1)))) dNoP)))) dNext)
def b_bent_2 (sp_self : SpD) : TSd := (dAsg (dFn0 sp_draw (dCons (dVar 0) (dCons (dC (.int 9)) dNil))) (hName 3))
def b_bent_3 (sp_self : SpD) : TSd := (dIfS (dAndT (dTst (dIs "tuple" (dVar 1))) (dTst (dBin rLtD (dVar 3) (dC (.int 7))))) (dRet (dBin rIxD (dTup (dCons (dCall cListV (dCons (dVar 1) dNil)) (dCons (dSl (dVar 1) dNoP (dPart (dNeg (dC (.int 1))))) (dCons (dBin rAddD (dVar 1) (dSl (dVar 1) (dPart (dNeg (dC (.int 1)))) dNoP)) (dCons (dRev (dVar 1)) (dCons (dSl (dVar 1) (dPart (dC (.int 1))) dNoP) (dCons (dBin rAddD (dSl (dVar 1) dNoP (dPart (dC (.int 1)))) (dVar 1)) (dCons (dTup (dCons (dVar 1) dNil)) dNil)))))))) (dVar 3))) dNext)
def b_bent_4 (sp_self : SpD) : TSd := (dIfS (dAndT (dTst (dIs "int" (dVar 1))) (dTst (dBin rLtD (dVar 3) (dC (.int 6))))) (dRet (dBin rIxD (dTup (dCons (dBin rAddD (dVar 1) (dC (.int 1))) (dCons (dBin rSubD (dC (.int 0)) (dVar 1)) (dCons (dBin rMulD (dC (.int 2)) (dVar 1)) (dCons (dBin rSubD (dVar 1) (dC (.int 2))) (dCons (dBin rEqV (dVar 1) (dC (.int 1))) (dCons (dCall cStrI (dCons (dVar 1) dNil)) dNil))))))) (dVar 3))) dNext)
def b_bent_5 (sp_self : SpD) : TSd := (dRet (dFn0 sp_odd (dCons (dVar 0) dNil)))
def b_bent (sp_self : SpD) : TSd := (dSeq (b_bent_1 sp_self) (dSeq (b_bent_2 sp_self) (dSeq (b_bent_3 sp_self) (dSeq (b_bent_4 sp_self) (b_bent_5 sp_self)))))
def b_l_is_whole : TSd := (dRet (dAnd (dIs "int" (dVar 0)) (dNot (dIs "bool" (dVar 0)))))
def b_is_lot : TSd := (dRet (dAnd (dIs "tuple" (dVar 0)) (dChain rLeD rLeD (dVar 1) (dCall cLen (dCons (dVar 0) dNil)) (dVar 2))))
def b_l_is_fraction_1 : TSd := (dIfS (dOrT (dNotT (dTst (dFn0 sp_is_lot (dCons (dVar 0) (dCons (dC (.int 2)) (dCons (dC (.int 2)) dNil)))))) (dNotT (dTst (dCall cAll (dCons (dLcV (dIter (dVar 0)) 1 dYes (dFn0 sp_l_is_whole (dCons (dVar 1) dNil))) dNil))))) (dRet (dC (.bool false))) dNext)
def b_l_is_fraction_2 : TSd := (dRet (dAnd (dBin rGtD (dBin rIxD (dVar 0) (dC (.int 1))) (dC (.int 0))) (dBin rEqV (dFn0 sp_divisor (dCons (dBin rIxD (dVar 0) (dC (.int 0))) (dCons (dBin rIxD (dVar 0) (dC (.int 1))) dNil))) (dC (.int 1)))))
def b_l_is_fraction : TSd := (dSeq b_l_is_fraction_1 b_l_is_fraction_2)
def b_is_told : TSd := (dRet (dAnd (dFn0 sp_is_lot (dCons (dVar 0) (dCons (dC (.int 2)) (dCons (dC (.int 2)) dNil)))) (dCall cAll (dCons (dLcV (dIter (dVar 0)) 1 dYes (dFn0 sp_l_is_fraction (dCons (dVar 1) dNil))) dNil))))
def b_l_sign : TSd := (dRet (dIf (dTst (dBin rGtD (dVar 0) (dC (.int 0)))) (dC (.int 1)) (dIf (dTst (dBin rEqV (dVar 0) (dC (.int 0)))) (dC (.int 0)) (dNeg (dC (.int 1))))))
end LB
local macro_rules | `(tactic| walk_at "val") => `(tactic| repeat' (first | exact DL.vls_nil | apply DL.vls_cons | exact DL.val_c | exact DL.val_dict | exact DL.val_neg | exact DL.val_var rfl | apply DL.val_tup | apply DL.val_lst | apply DL.val_lstV | exact DL.val_pow ⟨by decide, by decide, by decide⟩ | decide))
local macro_rules | `(tactic| walk_at "st") => `(tactic| simp only [DL.startD, List.map_cons, List.map_nil, List.length_cons, List.length_nil, Nat.reduceAdd, Nat.reduceSub, List.replicate_succ, List.replicate_zero, List.cons_append, List.nil_append, List.append_nil, Nat.sub_self, Nat.zero_add])
local macro_rules | `(tactic| walk_at "go") => `(tactic| simp only [↓DL.dSeq, ↓DL.dNext, ↓DL.dAsg, ↓DL.dRet, ↓DL.dRetN, ↓DL.dIfS, ↓DL.dDrop, ↓DL.dBin, ↓DL.dCons, ↓DL.dNil, ↓DL.dTup, ↓DL.dC, ↓DL.dNeg, ↓DL.dAnd, ↓DL.dOr, ↓DL.dNot, ↓DL.dIf, ↓DL.dTst, ↓DL.asB, ↓DL.dChain, ↓DL.dAndT, ↓DL.dOrT, ↓DL.dNotT, ↓DL.dCall, ↓DL.dFn0, ↓DL.dFnK, ↓DL.dIs, ↓DL.dSl, ↓DL.dNoP, ↓DL.dPart, ↓DL.dRev, ↓DL.dLst, ↓DL.dLstV, ↓DL.cListV, ↓DL.dDict, ↓DL.dPar, ↓DL.dPar3, ↓DL.hTup, ↓DL.hCons, ↓DL.nil_go, ↓DL.hName, ↓DL.hSub, ↓DL.rI2, ↓DL.rSubD, ↓DL.rMulD, ↓DL.rMulX, ↓DL.rDivF, ↓DL.rDivD, ↓DL.rModD, ↓DL.rPowD, ↓DL.rLtD, ↓DL.rLeD, ↓DL.rGtD, ↓DL.rGeD, ↓DL.rAddD, ↓DL.ixt_0, ↓DL.ixt_1, ↓DL.ixt_2, ↓DL.ixt_3, ↓DL.ixt_4, ↓DL.ixl_0, ↓DL.ixl_1, ↓DL.ixl_2, ↓DL.ixl_3, ↓DL.ixl_4, ↓DL.rEqV, ↓DL.rNeV, ↓DL.rSlD, ↓DL.cLen, ↓DL.cAbs, ↓DL.cInt, ↓DL.cStrI, ↓DL.cDivmod, ↓DL.cMin, ↓DL.cMax, ↓DL.cGcd, ↓DL.cLcm, ↓DL.cAll, ↓DL.cRepr, ↓DL.cList, ↓DL.cTuple, ↓DL.rC1, ↓DL.rC2, ↓DL.dNever, ↓DL.dIter, ↓DL.dRng1, ↓DL.dRng2, ↓DL.dYes,
  ↓DL.frz_d, ↓DL.var_zero, ↓DL.var_succ, ↓DL.var_set, ↓DL.var_ne, DL.own_some, DL.no_own2, DL.eqv_int, DL.sh_int, DL.sh_bool, DL.kit_int, DL.kit_bool, DL.kit_tuple, DL.kit_str, DL.is_int, DL.is_bool, DL.is_tuple, DL.is_str, DL.pures_nil, DL.pures_cons, Option.map_some, List.length_cons, List.length_nil, List.length_set, List.map_cons, List.map_nil, DL.pick, List.filterMap_cons, List.filterMap_nil,
  true_and, and_true, ite_true, ite_false, if_true, if_false, reduceIte, reduceCtorEq, ne_eq, not_false_eq_true, Nat.reduceAdd, Nat.reduceLT, Nat.reduceEqDiff, decide_eq_true_eq, Bool.not_true, Bool.not_false, Bool.false_eq_true, eq_self])
local macro_rules | `(tactic| walk_at "gk") => `(tactic| simp only [↓LB.sp_divisor, ↓LB.sp_part, ↓LB.sp_place, ↓LB.sp_is_whole, ↓LB.sp_l_is_whole, ↓LB.sp_is_row, ↓LB.sp_is_lot, ↓LB.sp_is_fraction, ↓LB.sp_l_is_fraction, ↓LB.sp_is_place, ↓LB.sp_is_point, ↓LB.sp_is_told, ↓LB.sp_told, ↓LB.sp_own, ↓LB.sp_side, ↓LB.sp_l_is_less, ↓LB.sp_l_lies_on, ↓LB.sp_l_sign, ↓LB.sp_sign, ↓LB.sp_scaled, ↓LB.sp_crossed, ↓LB.sp_along, ↓LB.sp_is_less, ↓DL.dSeq, ↓DL.dNext, ↓DL.dAsg, ↓DL.dRet, ↓DL.dRetN, ↓DL.dIfS, ↓DL.dDrop, ↓DL.dBin, ↓DL.dCons, ↓DL.dNil, ↓DL.dTup, ↓DL.dC, ↓DL.dNeg, ↓DL.dAnd, ↓DL.dOr, ↓DL.dNot, ↓DL.dIf, ↓DL.dTst, ↓DL.asB, ↓DL.dChain, ↓DL.dAndT, ↓DL.dOrT, ↓DL.dNotT, ↓DL.dCall, ↓DL.dFn0, ↓DL.dFnK, ↓DL.dIs, ↓DL.dSl, ↓DL.dNoP, ↓DL.dPart, ↓DL.dRev, ↓DL.dLst, ↓DL.dLstV, ↓DL.cListV, ↓DL.dDict, ↓DL.dPar, ↓DL.dPar3, ↓DL.hTup, ↓DL.hCons, ↓DL.nil_go, ↓DL.hName, ↓DL.hSub, ↓DL.rI2, ↓DL.rSubD, ↓DL.rMulD, ↓DL.rMulX, ↓DL.rDivF, ↓DL.rDivD, ↓DL.rModD, ↓DL.rPowD, ↓DL.rLtD, ↓DL.rLeD, ↓DL.rGtD, ↓DL.rGeD, ↓DL.rAddD, ↓DL.ixt_0, ↓DL.ixt_1, ↓DL.ixt_2, ↓DL.ixt_3, ↓DL.ixt_4, ↓DL.ixl_0, ↓DL.ixl_1, ↓DL.ixl_2, ↓DL.ixl_3, ↓DL.ixl_4, ↓DL.rEqV, ↓DL.rNeV, ↓DL.rSlD, ↓DL.cLen, ↓DL.cAbs, ↓DL.cInt, ↓DL.cStrI, ↓DL.cDivmod, ↓DL.cMin, ↓DL.cMax, ↓DL.cGcd, ↓DL.cLcm, ↓DL.cAll, ↓DL.cRepr, ↓DL.cList, ↓DL.cTuple, ↓DL.rC1, ↓DL.rC2, ↓DL.dNever, ↓DL.dIter, ↓DL.dRng1, ↓DL.dRng2, ↓DL.dYes,
  ↓DL.frz_d, ↓DL.var_zero, ↓DL.var_succ, ↓DL.var_set, ↓DL.var_ne, DL.own_some, DL.no_own2, DL.eqv_int, DL.sh_int, DL.sh_bool, DL.kit_int, DL.kit_bool, DL.kit_tuple, DL.kit_str, DL.is_int, DL.is_bool, DL.is_tuple, DL.is_str, DL.pures_nil, DL.pures_cons, Option.map_some, List.length_cons, List.length_nil, List.length_set, List.map_cons, List.map_nil, DL.pick, List.filterMap_cons, List.filterMap_nil,
  true_and, and_true, ite_true, ite_false, if_true, if_false, reduceIte, reduceCtorEq, ne_eq, not_false_eq_true, Nat.reduceAdd, Nat.reduceLT, Nat.reduceEqDiff, decide_eq_true_eq, Bool.not_true, Bool.not_false, Bool.false_eq_true, eq_self])
namespace LB
open PySem PySem.Spec PyProof.Rows L2 DL
theorem mulW {i j : Int} {a b : Nat} (ha : B a i) (hb : B b j) (h0 : 0 < a) (h1 : 0 < b) (h : a + b ≤ 1000000) : CMulW i j := wide_mul ha hb h0 h1 h
theorem B_of {n : Nat} {i : Int} (k : Nat) (hk : i.natAbs < k) (h : k ≤ 2 ^ n) : B n i := Nat.lt_of_lt_of_le hk h
theorem r_is_whole : ∀ ds st Q, sp_is_whole ds st Q → b_is_whole { nx := fun _ s' => Q (.d .none) s', rt := Q } (startD N_is_whole ds) st := by
  intro ds st Q h
  unfold sp_is_whole at h
  split at h
  · rename_i x
    walk_at "st"
    unfold b_is_whole
    walk_at "go"
    cases x <;> simpa [isW] using h
  · exact h.elim
theorem r_is_row : ∀ ds st Q, sp_is_row ds st Q → b_is_row { nx := fun _ s' => Q (.d .none) s', rt := Q } (startD N_is_row ds) st := by
  intro ds st Q h
  unfold sp_is_row at h
  split at h
  · rename_i x lo hi
    walk_at "st"
    unfold b_is_row
    walk_at "go"
    cases x with
    | tuple xs =>
      simp only [isRow] at h
      walk_at "go"
      by_cases h1 : lo ≤ (xs.length : Int)
      · simpa [h1] using h
      · simpa [h1] using h
    | _ => simpa [isRow] using h
  · exact h.elim
theorem small_div {i j : Int} (h0 : 0 < j) (h : j < 2 ^ 40) : CDivP i j := by
  refine ⟨h0, ?_⟩
  have hj : ¬ (j == 0) = true := by simpa using (show j ≠ 0 by omega)
  have l : j.natAbs.log2 ≤ 39 := PySem.W.mg_log (k := 39) (by omega)
  show (decide ((if j == 0 then 0 else j.natAbs.log2 / 30 + 1) > 300) && _) = false
  rw [if_neg hj, decide_eq_false (by omega), Bool.false_and]
theorem bm1 (v : Int) : B 40 (v % 2147483629) := by
  have t0 := Int.emod_nonneg v (show (2147483629 : Int) ≠ 0 by decide)
  have t1 := Int.emod_lt_of_pos v (show (0 : Int) < 2147483629 by decide)
  unfold B
  omega
theorem bm2 (s : Int) : B 40 (s % 6007 + 50021) := by
  have t0 := Int.emod_nonneg s (show (6007 : Int) ≠ 0 by decide)
  have t1 := Int.emod_lt_of_pos s (show (0 : Int) < 6007 by decide)
  unfold B
  omega
theorem r_draw : ∀ ds st Q, sp_draw ds st Q → b_draw { nx := fun _ s' => Q (.d .none) s', rt := Q } (startD N_draw ds) st := by
  intro ds st Q h
  unfold sp_draw at h
  split at h
  · rename_i p m
    obtain ⟨hm, hm2, n, xs, hst, ⟨x, y, z, rfl, h1, h2, h3, h4⟩, hn, k⟩ := h
    refine ⟨_, rfl, _, _, hst, rfl, trivial, ?_⟩
    show if decide (0 < x) = true then _ else _
    by_cases hx : 0 < x
    · rw [if_pos (decide_eq_true hx)]
      refine ⟨_, rfl, _, _, hst, rfl, _, rfl, small_div hm hm2, .inl ⟨rfl, _, rfl, _, 0, hst, rfl, rfl, _, rfl, .inl ?_⟩⟩
      exact k _ _ ⟨_, rfl, Int.emod_nonneg _ (by omega), Int.emod_lt_of_pos _ hm⟩ ⟨_, y, z, rfl, h1, h2, h3, by omega⟩
    · rw [if_neg (by simpa using hx)]
      have hz : 0 ≤ z + 1 := by omega
      refine ⟨_, rfl, _, _, hst, rfl, .inl ⟨_, rfl, _, 2, hst, rfl, ?_⟩⟩
      have e1 : (put st p ([I x, I y, I z].set 2 (I (z + 1)))) p = some [I x, I y, I (z + 1)] := put_same
      have bz : B 64 (z + 1) := by
        unfold B
        omega
      refine ⟨_, rfl, _, _, e1, rfl, _, rfl, _, _, e1, rfl, mulW (a := 20) (b := 64) (by unfold B; decide) bz (by decide) (by decide) (by decide), ⟨trivial, (show (0 : Int) < 2147483629 by decide), .inl ?_⟩⟩
      refine ⟨_, rfl, _, rfl, trivial, (show (0 : Int) < 6007 by decide), ?_⟩
      refine ⟨mulW (a := 40) (b := 40) (bm1 _) (bm2 _) (by decide) (by decide) (by decide), ?_⟩
      refine ⟨_, rfl, _, _, e1, rfl, mulW (a := 20) (b := 64) (by unfold B; decide) bz (by decide) (by decide) (by decide), trivial, (show (0 : Int) < 2147483629 by decide), .inl ?_⟩
      refine ⟨_, rfl, _, 1, e1, rfl, ?_⟩
      refine ⟨_, rfl, _, _, put_same, rfl, wide_div (b := 20) (by decide) (by decide) (by decide) (by decide), trivial, _, rfl, hm, .inl ?_⟩
      rw [put_put]
      exact k _ _ ⟨_, rfl, Int.emod_nonneg _ (by omega), Int.emod_lt_of_pos _ hm⟩ ⟨x, _, z + 1, rfl, Int.emod_nonneg _ (by decide), Int.emod_lt_of_pos _ (by decide), hz, by omega⟩
  · exact h.elim
end LB
namespace LB
open PySem PySem.Spec PyProof.Rows L2 DL
theorem cut_ints {α β : Type} (f : α → β) (xs : List α) (lo hi : Option Int) : cutP (xs.map f) lo hi = (cutP xs lo hi).map f := by
  unfold cutP
  rw [List.length_map, List.map_take, List.map_drop]
theorem mixB {m : Int} (h0 : 0 ≤ m) (h1 : m < 2147483629) : B 40 m := by
  unfold B
  omega
theorem r_spring (c : Int) (hc : 0 ≤ c) (hc2 : c < 1000000) : ∀ ds st Q, sp_spring ds st Q → b_spring c { nx := fun _ s' => Q (.d .none) s', rt := Q } (startD N_spring ds) st := by
  intro ds st Q h
  unfold sp_spring at h
  split at h
  · rename_i ns t
    obtain ⟨hl, h0, h1, k⟩ := h
    walk_at "st"
    have bt : B 40 t := by
      unfold B
      omega
    refine ⟨_, rfl, mulW (a := 40) (b := 40) (by unfold B; decide) bt (by decide) (by decide) (by decide), .inl ?_⟩
    refine ⟨_, rfl, ?_⟩
    refine ⟨fun _ e' st' => st' = st ∧ ∃ (m : Int) (c : Option D), e' = [some (.scr ns), some (.d (.int t)), some (I m), c, none] ∧ 0 ≤ m ∧ m < 2147483629, ⟨rfl, c + 9241 * t, none, rfl, by omega, by omega⟩, ?_⟩
    rintro i e' st' ⟨rfl, m, c, rfl, m0, m1⟩
    refine ⟨(fun a ds z => nomatch z), fun _ => ?_, fun d hd => ?_⟩
    · -- behind the loop
      have own : ∃ o : Int, ∀ (K : D → Sto → Prop), K (I o) st' → (dIf (dTst (dBin rLtD (dVar 1) (dCall cLen (dCons (dVar 0) dNil)))) (dCall cInt (dCons (dBin rIxD (dVar 0) (dVar 1)) dNil)) (dC (.int 0))) [some (.scr ns), some (.d (.int t)), some (I m), c, none] st' K := by
        by_cases ht : t < ns.length
        · have hlt : t.toNat < ns.length := by omega
          refine ⟨ns[t.toNat], fun K hK => ?_⟩
          refine ⟨_, rfl, _, rfl, _, rfl, trivial, ?_⟩
          show if decide (t < ((ns.map fun n => D.d (.int n)).length : Int)) = true then _ else _
          rw [if_pos (decide_eq_true (by rw [List.length_map]; exact ht))]
          refine ⟨_, rfl, _, rfl, _, D.d (.int ns[t.toNat]), rfl, ?_, trivial, hK⟩
          have e1 : ((t.toNat : Nat) : Int) = t := Int.toNat_of_nonneg h0
          have e2 := atI_nat (xs := ns.map fun n => D.d (.int n)) (j := t.toNat) (v := D.d (.int ns[t.toNat])) (by rw [List.getElem?_map, List.getElem?_eq_getElem hlt]; rfl)
          rw [e1] at e2
          exact e2
        · refine ⟨0, fun K hK => ?_⟩
          refine ⟨_, rfl, _, rfl, _, rfl, trivial, ?_⟩
          show if decide (t < ((ns.map fun n => D.d (.int n)).length : Int)) = true then _ else _
          rw [if_neg (by rw [List.length_map]; simpa using ht)]
          exact hK
      obtain ⟨o, ho⟩ := own
      refine ho _ (.inl ?_)
      unfold b_spring_4 b_spring_5
      walk_at "go"
      have mb := mixB m0 m1
      have q0 := Int.emod_nonneg o (show (2147483587 : Int) ≠ 0 by decide)
      have q1 := Int.emod_lt_of_pos o (show (0 : Int) < 2147483587 by decide)
      refine ⟨mulW (a := 40) (b := 40) mb (by unfold B; decide) (by decide) (by decide) (by decide), by decide, mulW (a := 40) (b := 40) (by unfold B; omega) (by unfold B; decide) (by decide) (by decide) (by decide), by decide, ?_⟩
      have fin : ∀ v w : Int, 0 ≤ w → w < 2147483629 → mkL [D.d (.int v), D.d (.int w), D.d (.int 0)] st' (frz Q) := fun v w h2 h3 => .inr fun p hp => .inl (k p _ hp ⟨v, w, 0, rfl, h2, h3, by omega, by omega⟩)
      have z0 := Int.emod_nonneg (m * 61 + o % 2147483587 * 30011 + 7) (show (2147483629 : Int) ≠ 0 by decide)
      have z1 := Int.emod_lt_of_pos (m * 61 + o % 2147483587 * 30011 + 7) (show (0 : Int) < 2147483629 by decide)
      have three : 3 ≤ sizeLine := by decide
      by_cases hneg : o < 0
      · rw [if_pos hneg]
        exact ⟨three, fin _ _ z0 z1⟩
      · rw [if_neg hneg]
        refine ⟨⟨by decide, by decide, by decide⟩, ?_⟩
        split
        · exact ⟨three, fin _ _ z0 z1⟩
        · exact ⟨three, fin _ _ z0 z1⟩
    · have hd' : (((cutP ns none (some 9)).map PyData.int).map D.d)[i]? = some d := hd
      rw [List.getElem?_map, List.getElem?_map] at hd'
      cases hc : (cutP ns none (some 9))[i]? with
      | none =>
        rw [hc] at hd'
        cases hd'
      | some v =>
        rw [hc] at hd'
        cases hd'
        show (dAsg _ _) _ _ _
        walk_at "go"
        refine ⟨mulW (a := 40) (b := 40) (mixB m0 m1) (by unfold B; decide) (by decide) (by decide) (by decide), by decide, by decide, _, some (D.d (.int v)), rfl, Int.emod_nonneg _ (by decide), Int.emod_lt_of_pos _ (by decide)⟩
  · exact h.elim
theorem r_one_of : ∀ ds st Q, sp_one_of ds st Q → b_one_of { nx := fun _ s' => Q (.d .none) s', rt := Q } (startD N_one_of ds) st := by
  intro ds st Q h
  unfold sp_one_of at h
  split at h
  · rename_i p xs
    obtain ⟨h0, h1, n, ys, hst, hy, hn, k⟩ := h
    refine ⟨_, rfl, _, rfl, _, rfl, _, rfl, by rw [List.length_map]; omega, by rw [List.length_map]; omega, n, ys, hst, hy, hn, ?_⟩
    rintro _ ys' ⟨i, rfl, i0, i1⟩ hy'
    rw [List.length_map] at i1
    have hlt : i.toNat < xs.length := by omega
    refine ⟨_, D.d xs[i.toNat], rfl, ?_, .inl (k _ ys' ⟨_, rfl, List.getElem_mem hlt⟩ hy')⟩
    have e1 : ((i.toNat : Nat) : Int) = i := Int.toNat_of_nonneg i0
    have e2 := atI_nat (xs := xs.map D.d) (j := i.toNat) (v := D.d xs[i.toNat]) (by rw [List.getElem?_map, List.getElem?_eq_getElem hlt]; rfl)
    rw [e1] at e2
    exact e2
  · rename_i p xs
    obtain ⟨h0, h1, n, ys, hst, hy, hn, k⟩ := h
    refine ⟨_, rfl, _, rfl, _, rfl, by omega, by omega, n, ys, hst, hy, hn, ?_⟩
    rintro _ ys' ⟨i, rfl, i0, i1⟩ hy'
    have hlt : i.toNat < xs.length := by omega
    refine ⟨xs[i.toNat], ?_, .inl (k _ ys' ⟨_, rfl, List.getElem_mem hlt⟩ hy')⟩
    have e1 : ((i.toNat : Nat) : Int) = i := Int.toNat_of_nonneg i0
    have e2 := atI_nat (xs := xs) (j := i.toNat) (List.getElem?_eq_getElem hlt)
    rw [e1] at e2
    exact e2
  · exact h.elim
theorem r_odd : ∀ ds st Q, sp_odd ds st Q → b_odd { nx := fun _ s' => Q (.d .none) s', rt := Q } (startD N_odd ds) st := by
  intro ds st Q h
  unfold sp_odd at h
  split at h
  · rename_i p
    obtain ⟨n, ys, hst, hy, hn, k⟩ := h
    refine ⟨by decide, by decide, by decide, by decide, by decide, by decide, by decide, by decide, by decide, by decide, .inl ⟨rfl, rfl, ?_⟩⟩
    dsimp only
    simp only [↓dSeq, ↓dAsg]
    apply lstV_then
    · walk_at "val"
    · decide
    · intro xs hl
      refine Or.inl ⟨_, rfl, _, rfl, ?_, ?_, n, ys, hst, hy, hn, fun d ys' hd hy' => .inl (k d ys' (let ⟨x, e, _⟩ := hd; ⟨x, e⟩) hy')⟩
      · rw [hl]
        decide
      · rw [hl]
        decide
  · exact h.elim
theorem r_divisor : ∀ ds st Q, sp_divisor ds st Q → b_divisor { nx := fun _ s' => Q (.d .none) s', rt := Q } (startD N_divisor ds) st := by
  intro ds st Q h
  unfold sp_divisor at h
  split at h
  · rename_i a b
    walk_at "st"
    refine ⟨_, rfl, trivial, _, rfl, trivial, ?_⟩
    refine ⟨fun m e' st' => st' = st ∧ ∃ f : Nat, e' = [some (I a), some (I b), some (I f), some (I m)] ∧ Nat.gcd f m = Nat.gcd a.natAbs b.natAbs, ⟨b.natAbs, rfl, a.natAbs, ?_, rfl⟩, ?_⟩
    · have ha : (if a < 0 then -a else a) = (a.natAbs : Int) := by split <;> omega
      have hb : (if b < 0 then -b else b) = (b.natAbs : Int) := by split <;> omega
      show [_, _, some (D.d (.int (if a < 0 then -a else a))), some (D.d (.int (if b < 0 then -b else b)))] = _
      rw [ha, hb]
    · rintro m e' st' ⟨rfl, f, rfl, hg⟩
      refine ⟨_, rfl, ?_⟩
      show if (!decide ((m : Int) = 0)) = true then _ else _
      by_cases hm : m = 0
      · subst hm
        rw [if_neg (by decide)]
        rw [Nat.gcd_zero_right] at hg
        refine ⟨_, rfl, .inl ?_⟩
        show Q (I (f : Int)) st'
        rw [hg]
        exact h
      · rw [if_pos (by simpa using hm)]
        refine ⟨_, rfl, _, rfl, trivial, _, rfl, by omega, f % m, Nat.mod_lt _ (Nat.pos_of_ne_zero hm), rfl, m, ?_, ?_⟩
        · show [_, _, some (I (m : Int)), some (D.d (.int ((f : Int) % (m : Int))))] = _
          rw [← Int.natCast_emod]
        · rw [Nat.gcd_comm, ← Nat.gcd_rec, Nat.gcd_comm]
          exact hg
  · exact h.elim
end LB
namespace LB
open PySem PySem.Spec PyProof.Rows L2 DL
theorem is_then {T : String} (hT : ∀ d, (kitB (tyD d) T).isSome = true) {i : Nat} {e : Ed} {st : Sto} {Q : Kd} {x : PyData} (h : e[i]? = some (some (.d x))) (q : Q (.d (.bool (isT T (.d x)))) st) : dIs T (dVar i) e st Q := ⟨_, h, (fun a z => nomatch z), hT _, q⟩
theorem kt (d : D) : (kitB (tyD d) "tuple").isSome = true := kit_all (by decide +kernel) d
theorem ki (d : D) : (kitB (tyD d) "int").isSome = true := kit_all (by decide +kernel) d
theorem cutP_len {α : Type} (xs : List α) (lo hi : Option Int) : (cutP xs lo hi).length ≤ xs.length := by
  unfold cutP
  rw [List.length_take, List.length_drop]
  omega
theorem at_small {α : Type} {xs : List α} {i : Int} (h0 : 0 ≤ i) (h1 : i < xs.length) : ∃ x, x ∈ xs ∧ atI xs i = some x := by
  have hlt : i.toNat < xs.length := by omega
  have e1 : ((i.toNat : Nat) : Int) = i := Int.toNat_of_nonneg h0
  have e2 := atI_nat (xs := xs) (j := i.toNat) (List.getElem?_eq_getElem hlt)
  rw [e1] at e2
  exact ⟨_, List.getElem_mem hlt, e2⟩
theorem big_ok {n : Nat} (h : n ≤ 3000) : n ≤ sizeLine := Nat.le_trans h (by decide)
theorem r_bent (k : Nat) (self : SpD) (hs : ∀ j, k = j + 1 → ∀ ds st Q, sp_bentK j ds st Q → self ds st Q) : ∀ ds st Q, sp_bentK k ds st Q → b_bent self { nx := fun _ s' => Q (.d .none) s', rt := Q } (startD N_bent ds) st := by
  intro ds st Q h
  unfold sp_bentK at h
  split at h
  · rename_i p x
    obtain ⟨hx, n, ys, hst, hy, hn, kk⟩ := h
    show b_bent self _ [some (.own p), some (.d x), none, none] st
    -- what follows a draw from nine
    have rest : ∀ (ys : List D) (st : Sto), st p = some ys → SprL ys (n + 2 * k) → (∀ d xs', (∃ x, d = D.d x) → SprL xs' (n + (2 * k + 2)) → Q d (put st p xs')) →
        (dSeq (b_bent_2 self) (dSeq (b_bent_3 self) (dSeq (b_bent_4 self) (b_bent_5 self)))) { nx := fun _ s' => Q (.d .none) s', rt := Q } [some (.own p), some (.d x), none, none] st := by
      intro ys st hst hy kk
      refine ⟨_, rfl, by decide, by decide, n + 2 * k, ys, hst, hy, by omega, ?_⟩
      rintro _ zs ⟨i, rfl, i0, i1⟩ hz
      refine .inl ?_
      have kk1 : ∀ x, Q (.d x) (put st p zs) := fun x => by
        have := kk (.d x) zs ⟨x, rfl⟩ (hz.mono (by omega))
        exact this
      have last : (b_bent_5 self) { nx := fun _ s' => Q (.d .none) s', rt := Q } [some (.own p), some (.d x), none, some (I i)] (put st p zs) := by
        refine ⟨_, rfl, n + 2 * k + 1, zs, put_same, hz, by omega, ?_⟩
        rintro _ ws ⟨w, rfl⟩ hw
        rw [put_put]
        exact .inl (kk _ ws ⟨w, rfl⟩ hw)
      have four : (∀ xs, x ≠ .tuple xs) → (dSeq (b_bent_4 self) (b_bent_5 self)) { nx := fun _ s' => Q (.d .none) s', rt := Q } [some (.own p), some (.d x), none, some (I i)] (put st p zs) := by
        intro nt
        cases x with
        | int v =>
          unfold b_bent_4
          walk_at "go"
          have bv : B 1000 v := by
            cases k <;> exact hx
          split
          · refine ⟨mulW (a := 20) (b := 1000) (by unfold B; decide) bv (by decide) (by decide) (by decide), ?_, ?_, ?_⟩
            · have := PySem.Flt.log2_lt_of (by decide : 0 < 1000) bv
              omega
            · exact big_ok (by decide)
            · obtain ⟨z, hz1, hz2⟩ := at_small (xs := [PyData.int (v + 1), .int (0 - v), .int (2 * v), .int (v - 2), .bool (decide (v = 1)), .str (toString v : String)]) i0 (by simpa using (by omega))
              exact ⟨z, hz2, .inl (kk1 z)⟩
          · exact last
        | tuple xs => exact absurd rfl (nt xs)
        | bool b => exact absurd hx (by cases k <;> exact id)
        | _ =>
          unfold b_bent_4
          walk_at "go"
          exact last
      cases x with
      | tuple xs =>
        have hl : xs.length ≤ 1000 := by
          cases k with
          | zero => exact hx.elim
          | succ k => exact hx.1
        unfold b_bent_3 b_bent_4
        walk_at "go"
        split
        · have c1 := cutP_len xs (some (-1)) none
          have c2 := cutP_len xs none (some 1)
          refine ⟨big_ok (by omega), big_ok (by omega), big_ok (by decide), big_ok (by decide), ?_⟩
          obtain ⟨z, hz1, hz2⟩ := at_small (xs := [PyData.list xs, .tuple (cutP xs none (some (-1))), .tuple (xs ++ cutP xs (some (-1)) none), .tuple xs.reverse, .tuple (cutP xs (some 1) none), .tuple (cutP xs none (some 1) ++ xs), .tuple [.tuple xs]]) i0 (by simpa using (by omega))
          exact ⟨z, hz2, .inl (kk1 z)⟩
        · exact last
      | _ =>
        unfold b_bent_3
        walk_at "go"
        exact four (fun _ => (nomatch ·))
    have go2 : ∀ (ys : List D) (st' : Sto), (∀ d xs', (∃ x, d = D.d x) → SprL xs' (n + (2 * k + 2)) → Q d (put st' p xs')) → st' p = some ys → SprL ys (n + 2 * k) →
        (dSeq (b_bent_2 self) (dSeq (b_bent_3 self) (dSeq (b_bent_4 self) (b_bent_5 self)))) { nx := fun _ s' => Q (.d .none) s', rt := Q } [some (.own p), some (.d x), none, none] st' := fun ys st' kk hst hy => rest ys st' hst hy kk
    have skip := go2 ys st (fun d xs' hd h => kk d xs' hd h) hst (hy.mono (by omega))
    cases x with
    | tuple xs =>
      obtain ⟨j, rfl⟩ : ∃ j, k = j + 1 := by
        cases k with
        | zero => exact hx.elim
        | succ j => exact ⟨j, rfl⟩
      obtain ⟨hl, hsh, hpl⟩ := hx
      refine is_then kt rfl ?_
      rw [is_tuple]
      refine ⟨_, rfl, big_ok (by decide), hsh, by simp [SeqAt.shaped, PyData.canLay0, PyData.canLayAll0, PyData.depth, PyData.depthAll], ?_⟩
      cases xs with
      | nil => exact skip
      | cons x0 xs =>
        refine ⟨_, rfl, by decide, by decide, n, ys, hst, hy, by omega, ?_⟩
        rintro _ zs ⟨i, rfl, i0, i1⟩ hz
        refine ⟨trivial, ?_⟩
        show if decide (0 < i) = true then _ else _
        by_cases hi : 0 < i
        · rw [if_pos (decide_eq_true hi)]
          have hlen : (0 : Int) < ((x0 :: xs).length : Nat) := by
            rw [List.length_cons]
            omega
          refine ⟨_, rfl, _, rfl, hlen, by omega, n + 1, zs, put_same, hz, by omega, ?_⟩
          rintro _ ws ⟨a, rfl, a0, a1⟩ hw
          rw [put_put]
          refine .inl ⟨_, rfl, _, rfl, _, rfl, _, rfl, _, rfl, ?_⟩
          obtain ⟨y, y1, y2⟩ := at_small (xs := x0 :: xs) a0 a1
          refine ⟨y, y2, hs j rfl _ _ _ ⟨hpl y y1, n + 2, ws, put_same, hw, by omega, ?_⟩⟩
          rintro _ vs ⟨z, rfl⟩ hv
          rw [put_put]
          have c1 := cutP_len (x0 :: xs) none (some a)
          have c2 := cutP_len (x0 :: xs) (some (a + 1)) none
          refine ⟨big_ok (by show 1 ≤ 3000; omega), big_ok (by simp only [List.length_cons, List.length_nil] at *; omega), _, rfl, _, rfl, big_ok (by simp only [List.length_cons, List.length_nil, List.length_append] at *; omega), .inl ?_⟩
          exact kk _ vs ⟨_, rfl⟩ (hv.mono (by omega))
        · rw [if_neg (by simpa using hi)]
          refine go2 zs _ (fun d xs' hd h => ?_) put_same (hz.mono (by omega))
          rw [put_put]
          exact kk d xs' hd h
    | _ =>
      refine is_then kt rfl ?_
      rw [is_tuple]
      exact skip
  · exact h.elim
end LB
namespace LB
open PySem PySem.Spec PyProof.Rows L2 DL
theorem B_mul {a b n : Nat} {i j : Int} (h : B a i) (g : B b j) (hn : a + b ≤ n) : B n (i * j) := Nat.lt_of_lt_of_le (wide_lt h g) (Nat.pow_le_pow_right (by decide) hn)
theorem B_mono {a n : Nat} {i : Int} (h : B a i) (hn : a ≤ n) : B n i := Nat.lt_of_lt_of_le h (Nat.pow_le_pow_right (by decide) hn)
theorem B_sub {a b n : Nat} {i j : Int} (h : B a i) (g : B b j) (h1 : a + 1 ≤ n) (h2 : b + 1 ≤ n) : B n (i - j) := by
  have h := B_mono h (n := n - 1) (by omega)
  have g := B_mono g (n := n - 1) (by omega)
  unfold B at *
  have e : 2 ^ n = 2 ^ (n - 1) + 2 ^ (n - 1) := by
    rw [← Nat.two_mul, Nat.mul_comm, ← Nat.pow_succ]
    congr 1
    omega
  rw [e]
  omega
theorem B_add {a b n : Nat} {i j : Int} (h : B a i) (g : B b j) (h1 : a + 1 ≤ n) (h2 : b + 1 ≤ n) : B n (i + j) := by
  have := B_sub h (j := -j) (by unfold B at *; rw [Int.natAbs_neg]; exact g) h1 h2
  rw [Int.sub_neg] at this
  exact this
theorem B_div {a : Nat} {i j : Int} (h : B a i) : B a (i / j) := Nat.lt_of_le_of_lt (Int.natAbs_ediv_le_natAbs i j) h
theorem gc_pos {a b : Int} (h : 0 < b) : 0 < gc a b := by
  have : 0 < Nat.gcd a.natAbs b.natAbs := Nat.gcd_pos_of_pos_right _ (by omega)
  unfold gc
  omega
theorem gc_le {a b : Int} (h : 0 < b) : gc a b ≤ b := by
  have : Nat.gcd a.natAbs b.natAbs ≤ b.natAbs := Nat.le_of_dvd (by omega) (Nat.gcd_dvd_right _ _)
  unfold gc
  omega
theorem gc_B {n : Nat} {a b : Int} (h : 0 < b) (hb : B n b) : B n (gc a b) := by
  have h1 := gc_pos (a := a) h
  have h2 := gc_le (a := a) h
  unfold B at *
  omega
theorem divW {n : Nat} {i j : Int} (h : 0 < j) (hb : B n j) (h0 : 0 < n) (h9 : n ≤ 9000) : CDivW i j := wide_div h hb h0 h9
theorem r_part : ∀ ds st Q, sp_part ds st Q → b_part { nx := fun _ s' => Q (.d .none) s', rt := Q } (startD N_part ds) st := by
  intro ds st Q h
  unfold sp_part at h
  split at h
  · rename_i t b
    obtain ⟨h0, ht, hb, q⟩ := h
    walk_at "st"
    unfold b_part b_part_1 b_part_2
    walk_at "gk"
    rw [if_pos h0]
    have g := gc_pos (a := t) h0
    have gb := gc_B (a := t) h0 hb
    exact ⟨divW g gb (by decide) (by decide), divW g gb (by decide) (by decide), big_ok (by decide), q⟩
  · exact h.elim
theorem gc_neg {a b : Int} : gc (-a) (-b) = gc a b := by
  unfold gc
  rw [Int.natAbs_neg, Int.natAbs_neg]
theorem gc_neg3 {x y w : Int} : gc (gc (-x) (-y)) (-w) = gc (gc x y) w := by
  unfold gc
  rw [Int.natAbs_neg, Int.natAbs_neg, Int.natAbs_neg]
theorem gc_dvd3 (x y w : Int) : gc (gc x y) w ∣ x ∧ gc (gc x y) w ∣ y ∧ gc (gc x y) w ∣ w := by
  have dl : ∀ a b : Int, gc a b ∣ a := fun a b => by
    unfold gc
    exact Int.ofNat_dvd_left.mpr (Nat.gcd_dvd_left _ _)
  have dr : ∀ a b : Int, gc a b ∣ b := fun a b => by
    unfold gc
    exact Int.ofNat_dvd_left.mpr (Nat.gcd_dvd_right _ _)
  exact ⟨Int.dvd_trans (dl _ _) (dl _ _), Int.dvd_trans (dl _ _) (dr _ _), dr _ _⟩
theorem fdiv_neg' {g x : Int} (h : g ∣ x) : Int.fdiv x (0 - g) = -x / g := by
  have h' : (0 - g) ∣ x := by
    rw [Int.zero_sub]
    exact (Int.neg_dvd).mpr h
  rw [Int.fdiv_eq_ediv_of_dvd h', Int.zero_sub, Int.ediv_neg]
  obtain ⟨k, rfl⟩ := h
  by_cases z : g = 0
  · subst z
    simp
  · rw [Int.mul_ediv_cancel_left _ z, ← Int.mul_neg, Int.mul_ediv_cancel_left _ z]
theorem fdiv_pos' {g x : Int} (h : 0 < g) : Int.fdiv x g = x / g := Int.fdiv_eq_ediv_of_nonneg x (by omega)
theorem divF {n : Nat} {i j : Int} (h : j ≠ 0) (hb : B n j) (h0 : 0 < n) (h9 : n ≤ 9000) : CDivF i j := ⟨h, Nat.lt_of_lt_of_le (PySem.Flt.log2_lt_of h0 hb) h9⟩
theorem gc_pos' {a b : Int} (h : b ≠ 0) : 0 < gc a b := by
  have : 0 < Nat.gcd a.natAbs b.natAbs := Nat.gcd_pos_of_pos_right _ (by omega)
  unfold gc
  omega
theorem gc_B' {n : Nat} {a b : Int} (h : b ≠ 0) (hb : B n b) : B n (gc a b) := by
  have h1 := gc_pos' (a := a) h
  have : Nat.gcd a.natAbs b.natAbs ≤ b.natAbs := Nat.le_of_dvd (by omega) (Nat.gcd_dvd_right _ _)
  unfold B gc at *
  omega
theorem r_place : ∀ ds st Q, sp_place ds st Q → b_place { nx := fun _ s' => Q (.d .none) s', rt := Q } (startD N_place ds) st := by
  intro ds st Q h
  unfold sp_place at h
  split at h
  · rename_i x y w
    obtain ⟨h0, hx, hy, hw, q⟩ := h
    walk_at "st"
    unfold b_place b_place_1 b_place_2
    walk_at "gk"
    have g := gc_pos' (a := gc x y) h0
    have gb := gc_B' (a := gc x y) h0 hw
    obtain ⟨d1, d2, d3⟩ := gc_dvd3 x y w
    by_cases hp : 0 < w
    · rw [if_pos hp]
      have d : ∀ i, CDivF i (gc (gc x y) w) := fun i => divF (by omega) gb (by decide) (by decide)
      rw [placeS, if_pos hp] at q
      rw [fdiv_pos' g, fdiv_pos' g, fdiv_pos' g]
      exact ⟨d _, d _, d _, big_ok (by decide), q⟩
    · rw [if_neg hp]
      have d : ∀ i, CDivF i (0 - gc (gc x y) w) := fun i => divF (n := 8000) (by omega) (by unfold B at *; omega) (by decide) (by decide)
      rw [placeS, if_neg hp] at q
      unfold placeT at q
      rw [gc_neg3] at q
      rw [fdiv_neg' d1, fdiv_neg' d2, fdiv_neg' d3]
      exact ⟨d _, d _, d _, big_ok (by decide), q⟩
  · exact h.elim
theorem B_big {i : Int} (h : B 1600 i) : i.natAbs < big9 := by
  unfold big9
  exact B_mono h (by decide)
theorem fr_eqv {a b c d : Int} : PyData.eqv (fr a b) (fr c d) = (decide (a = c) && decide (b = d)) := by
  rw [Bool.eq_iff_iff]
  simp [fr, PyData.eqv, PyData.eqvAll]
theorem fr_sh {a b : Int} : SeqAt.shaped (fr a b) = true := by
  simp [fr, SeqAt.shaped, PyData.canLay0, PyData.canLayAll0, PyData.depth, PyData.depthAll]
theorem pt_sh {p : Pt} : SeqAt.shaped p.py = true := by
  simp [Pt.py, fr, SeqAt.shaped, PyData.canLay0, PyData.canLayAll0, PyData.depth, PyData.depthAll]
theorem pt_eqv {p q : Pt} : PyData.eqv p.py q.py = decide (p = q) := by
  rw [Bool.eq_iff_iff]
  obtain ⟨a, b, c, d⟩ := p
  obtain ⟨a', b', c', d'⟩ := q
  simp [Pt.py, fr, PyData.eqv, PyData.eqvAll, and_assoc]
theorem r_told : ∀ ds st Q, sp_told ds st Q → b_told { nx := fun _ s' => Q (.d .none) s', rt := Q } (startD N_told ds) st := by
  intro ds st Q h
  unfold sp_told at h
  split at h
  · rename_i x y w
    obtain ⟨⟨h0, hx, hy, hw⟩, q⟩ := h
    walk_at "st"
    unfold b_told
    walk_at "gk"
    have m : ∀ {i}, B 1600 i → B 8000 i := fun h => B_mono h (by decide)
    exact ⟨h0, m hx, m hw, h0, m hy, m hw, big_ok (by decide), q⟩
  · exact h.elim
theorem r_own : ∀ ds st Q, sp_own ds st Q → b_own { nx := fun _ s' => Q (.d .none) s', rt := Q } (startD N_own ds) st := by
  intro ds st Q h
  unfold sp_own at h
  split at h
  · rename_i a b c d
    obtain ⟨h0, h1, ba, bb, bc, bd, q⟩ := h
    walk_at "st"
    unfold b_own b_own_1 b_own_2
    walk_at "gk"
    have m : ∀ {i j}, B 1600 i → B 1600 j → CMulW i j := fun h g => mulW h g (by decide) (by decide) (by decide)
    have n : ∀ {i j}, B 1600 i → B 1600 j → B 8000 (i * j) := fun h g => B_mul h g (by decide)
    have pos := Int.mul_pos h0 h1
    refine ⟨m ba bd, m bc bb, m bb bd, Int.ne_of_gt pos, n ba bd, n bc bb, n bb bd, ?_⟩
    rw [placeS, if_pos pos]
    exact q
  · exact h.elim
theorem r_side : ∀ ds st Q, sp_side ds st Q → b_side { nx := fun _ s' => Q (.d .none) s', rt := Q } (startD N_side ds) st := by
  intro ds st Q h
  unfold sp_side at h
  split at h
  · rename_i x y w x' y' w' x'' y'' w''
    obtain ⟨⟨h1, h2, h3⟩, ⟨h4, h5, h6⟩, ⟨h7, h8, h9⟩, q⟩ := h
    walk_at "st"
    unfold b_side b_side_1 b_side_2
    walk_at "gk"
    have m : ∀ {i j}, B 4000 i → B 4000 j → CMulW i j := fun h g => mulW h g (by decide) (by decide) (by decide)
    have n : ∀ {i j}, B 4000 i → B 4000 j → B 8000 (i * j) := fun h g => B_mul h g (by decide)
    have m3 : ∀ {i j k l u}, B 4000 u → B 4000 i → B 4000 j → B 4000 k → B 4000 l → CMulW u (i * j - k * l) := fun g1 g2 g3 g4 g5 => mulW g1 (B_sub (n := 8001) (n g2 g3) (n g4 g5) (by decide) (by decide)) (by decide) (by decide) (by decide)
    exact ⟨m h5 h9, m h8 h6, m3 h1 h5 h9 h8 h6, m h4 h9, m h7 h6, m3 h2 h4 h9 h7 h6, m h4 h8, m h7 h5, m3 h3 h4 h8 h7 h5, q⟩
  · exact h.elim
theorem r_l_is_less : ∀ ds st Q, sp_l_is_less ds st Q → b_l_is_less { nx := fun _ s' => Q (.d .none) s', rt := Q } (startD N_l_is_less ds) st := by
  intro ds st Q h
  unfold sp_l_is_less at h
  split at h
  · rename_i x y w x' y' w'
    obtain ⟨⟨h1, h2, h3⟩, ⟨h4, h5, h6⟩, q⟩ := h
    walk_at "st"
    unfold b_l_is_less b_l_is_less_1 b_l_is_less_2
    walk_at "gk"
    have m : ∀ {i j}, B 4000 i → B 4000 j → CMulW i j := fun h g => mulW h g (by decide) (by decide) (by decide)
    unfold lessT at q
    refine ⟨m h1 h6, m h4 h3, ?_⟩
    by_cases e : x * w' = x' * w
    · simpa [e, m h2 h6, m h5 h3] using q
    · simpa [e, m h1 h6, m h4 h3] using q
  · exact h.elim
theorem r_l_sign : ∀ ds st Q, sp_l_sign ds st Q → b_l_sign { nx := fun _ s' => Q (.d .none) s', rt := Q } (startD N_l_sign ds) st := by
  intro ds st Q h
  unfold sp_l_sign at h
  split at h
  · rename_i n
    walk_at "st"
    unfold b_l_sign
    walk_at "gk"
    unfold sgn at h
    by_cases h1 : 0 < n
    · rw [if_pos h1]
      rw [if_neg (by omega), if_pos h1] at h
      exact h
    · rw [if_neg h1]
      by_cases h2 : n = 0
      · rw [if_pos h2] at h ⊢
        exact h
      · rw [if_neg h2] at h ⊢
        rw [if_neg h1] at h
        exact h
  · exact h.elim
theorem r_sign : ∀ ds st Q, sp_sign ds st Q → b_sign { nx := fun _ s' => Q (.d .none) s', rt := Q } (startD N_sign ds) st := by
  intro ds st Q h
  unfold sp_sign sp_l_sign at h
  split at h
  · rename_i n
    walk_at "st"
    unfold b_sign b_sign_1 b_sign_2
    walk_at "gk"
    unfold sgn at h
    by_cases h2 : n = 0
    · rw [if_pos h2] at h ⊢
      exact h
    · rw [if_neg h2] at h ⊢
      by_cases h1 : 0 < n
      · rw [if_pos h1] at h ⊢
        exact h
      · rw [if_neg h1] at h ⊢
        exact h
  · exact h.elim
theorem lcm_B {a b : Int} (ha : B 1600 a) (hb : B 1600 b) : B 3200 ((Nat.lcm a.natAbs b.natAbs : Nat) : Int) := by
  have h1 : Nat.lcm a.natAbs b.natAbs ≤ a.natAbs * b.natAbs := PySem.W.mc_lcm_le _ _
  have h2 : B 3200 (a * b) := B_mul ha hb (by decide)
  unfold B at *
  rw [Int.natAbs_mul] at h2
  rw [Int.natAbs_natCast]
  exact Nat.lt_of_le_of_lt h1 h2
theorem r_scaled : ∀ ds st Q, sp_scaled ds st Q → b_scaled { nx := fun _ s' => Q (.d .none) s', rt := Q } (startD N_scaled ds) st := by
  intro ds st Q h
  unfold sp_scaled at h
  split at h
  · rename_i a b c d
    obtain ⟨h0, h1, ba, bb, bc, bd, q⟩ := h
    walk_at "st"
    unfold b_scaled b_scaled_1 b_scaled_2 b_scaled_3
    walk_at "gk"
    have l := lcm_B bb bd
    exact ⟨⟨B_big bb, B_big bd⟩, divW h0 bb (by decide) (by decide), mulW ba (B_div l) (by decide) (by decide) (by decide), divW h1 bd (by decide) (by decide), mulW bc (B_div l) (by decide) (by decide) (by decide), big_ok (by decide), q⟩
  · exact h.elim
theorem r_crossed : ∀ ds st Q, sp_crossed ds st Q → b_crossed { nx := fun _ s' => Q (.d .none) s', rt := Q } (startD N_crossed ds) st := by
  intro ds st Q h
  unfold sp_crossed at h
  split at h
  · rename_i x y w x' y' w'
    obtain ⟨⟨h1, h2, h3⟩, ⟨h4, h5, h6⟩, q⟩ := h
    walk_at "st"
    unfold b_crossed
    walk_at "gk"
    have m : ∀ {i j}, B 8000 i → B 8000 j → CMulW i j := fun h g => mulW h g (by decide) (by decide) (by decide)
    exact ⟨m h2 h6, m h3 h5, m h3 h4, m h1 h6, m h1 h5, m h2 h4, big_ok (by decide), q⟩
  · exact h.elim
theorem r_along : ∀ ds st Q, sp_along ds st Q → b_along { nx := fun _ s' => Q (.d .none) s', rt := Q } (startD N_along ds) st := by
  intro ds st Q h
  unfold sp_along at h
  split at h
  · rename_i x y w x' y' w'
    obtain ⟨⟨h1, h2, h3⟩, ⟨h4, h5, h6⟩, q⟩ := h
    walk_at "st"
    unfold b_along
    walk_at "gk"
    have m : ∀ {i j}, B 20000 i → B 20000 j → CMulW i j := fun h g => mulW h g (by decide) (by decide) (by decide)
    exact ⟨m h1 h4, m h2 h5, m h3 h6, q⟩
  · exact h.elim
theorem r_is_less : ∀ ds st Q, sp_is_less ds st Q → b_is_less { nx := fun _ s' => Q (.d .none) s', rt := Q } (startD N_is_less ds) st := by
  intro ds st Q h
  unfold sp_is_less at h
  split at h
  · rename_i a b c d
    obtain ⟨⟨h1, h2, h3, h4⟩, q⟩ := h
    walk_at "st"
    unfold b_is_less
    walk_at "gk"
    have m : ∀ {i j}, B 1600 i → B 1600 j → CMulW i j := fun h g => mulW h g (by decide) (by decide) (by decide)
    exact ⟨m h1 h4, m h3 h2, q⟩
  · exact h.elim
theorem r_is_fraction : ∀ ds st Q, sp_is_fraction ds st Q → b_is_fraction { nx := fun _ s' => Q (.d .none) s', rt := Q } (startD N_is_fraction ds) st := by
  intro ds st Q h
  unfold sp_is_fraction at h
  split at h
  · rename_i x
    walk_at "st"
    unfold b_is_fraction b_is_fraction_1 b_is_fraction_2
    have nt : isRow 2 2 x = false → isFr x = false := fun h => by
      cases x with
      | tuple xs =>
        match xs, h with
        | [], _ => rfl
        | [u], _ => cases u <;> rfl
        | [u, v], h => cases h
        | u :: v :: _ :: _, _ => cases u <;> cases v <;> rfl
      | _ => rfl
    cases hr : isRow 2 2 x with
    | false =>
      rw [nt hr] at h
      walk_at "gk"
      rw [hr]
      exact h
    | true =>
      cases x with
      | tuple xs =>
        match xs, hr with
        | [u, v], hr =>
          walk_at "gk"
          rw [hr]
          cases u with
          | int a =>
            cases v with
            | int b =>
              simp only [isW]
              walk_at "gk"
              simp only [isFr] at h
              by_cases hb : 0 < b
              · rw [decide_eq_true hb, Bool.true_and] at h
                change Q (D.d (.bool (decide (((Nat.gcd a.natAbs b.natAbs : Nat) : Int) = 1)))) st at h
                simpa [hb] using h
              · rw [decide_eq_false hb, Bool.false_and] at h
                simpa [hb] using h
            | _ => simpa [isW, isFr] using h
          | _ => simpa [isW, isFr] using h
        | _ :: _ :: _ :: r, hr =>
          simp [isRow] at hr
          omega
      | _ => cases hr
  · exact h.elim
end LB
namespace LB
open PySem PySem.Spec PyProof.Rows L2 DL
theorem r_l_is_whole : ∀ ds st Q, sp_l_is_whole ds st Q → b_l_is_whole { nx := fun _ s' => Q (.d .none) s', rt := Q } (startD N_l_is_whole ds) st := r_is_whole
theorem r_is_lot : ∀ ds st Q, sp_is_lot ds st Q → b_is_lot { nx := fun _ s' => Q (.d .none) s', rt := Q } (startD N_is_lot ds) st := r_is_row
theorem row2 {x : PyData} (h : isRow 2 2 x = true) : ∃ u v, x = .tuple [u, v] := by
  cases x with
  | tuple xs =>
    match xs, h with
    | [], h => cases h
    | [u], h => cases h
    | [u, v], h => exact ⟨u, v, rfl⟩
    | u :: v :: w :: r, h =>
      simp [isRow] at h
      omega
  | _ => cases h
theorem row2_fr {x : PyData} (h : isRow 2 2 x = false) : isFr x = false := by
  cases x with
  | tuple xs =>
    match xs, h with
    | [], _ => rfl
    | [u], _ => cases u <;> rfl
    | [u, v], h => cases h
    | u :: v :: _ :: _, _ => cases u <;> cases v <;> rfl
  | _ => rfl
theorem row2_pl {x : PyData} (h : isRow 2 2 x = false) : isPl x = false := by
  cases x with
  | tuple xs =>
    match xs, h with
    | [], _ => rfl
    | [u], _ => rfl
    | [u, v], h => cases h
    | u :: v :: _ :: _, _ => rfl
  | _ => rfl
def unB (f : PyData → Bool) : D → PyData
  | .d x => .bool (f x)
  | _ => .none
theorem all_two {f : PyData → Bool} {u v : PyData} : ([u, v].map D.d).map (unB f) = [f u, f v].map PyData.bool := rfl
theorem r_l_is_fraction : ∀ ds st Q, sp_l_is_fraction ds st Q → b_l_is_fraction { nx := fun _ s' => Q (.d .none) s', rt := Q } (startD N_l_is_fraction ds) st := by
  intro ds st Q h
  unfold sp_l_is_fraction sp_is_fraction at h
  split at h
  · rename_i x
    walk_at "st"
    unfold b_l_is_fraction b_l_is_fraction_1 b_l_is_fraction_2
    cases hr : isRow 2 2 x with
    | false =>
      rw [row2_fr hr] at h
      walk_at "gk"
      rw [hr]
      exact h
    | true =>
      obtain ⟨u, v, rfl⟩ := row2 hr
      walk_at "gk"
      rw [hr]
      simp only [if_true, Bool.not_true, Bool.false_eq_true, if_false]
      refine lcV_pure [.d u, .d v] (unB isW) (fun R hR => ⟨_, rfl, hR⟩) (by show 2 < sizeLine; decide) ?_ ⟨[isW u, isW v], rfl, ?_⟩
      · intro d hd K k
        rcases List.mem_cons.mp hd with rfl | hd
        · exact ⟨_, rfl, k⟩
        · rcases List.mem_cons.mp hd with rfl | hd
          · exact ⟨_, rfl, k⟩
          · cases hd
      · show if (!([isW u, isW v].all _root_.id)) = true then _ else _
        cases u with
        | int a =>
          cases v with
          | int b =>
            rw [if_neg (by simp [isW])]
            dsimp only
            simp only [isFr] at h
            by_cases hb : 0 < b
            · rw [decide_eq_true hb, Bool.true_and] at h
              simpa [hb] using h
            · rw [decide_eq_false hb, Bool.false_and] at h
              simpa [hb] using h
          | _ => simpa [isW, isFr] using h
        | _ => simpa [isW, isFr] using h
  · exact h.elim
theorem r_is_place : ∀ ds st Q, sp_is_place ds st Q → b_is_place { nx := fun _ s' => Q (.d .none) s', rt := Q } (startD N_is_place ds) st := by
  intro ds st Q h
  unfold sp_is_place at h
  split at h
  · rename_i x
    walk_at "st"
    unfold b_is_place
    cases hr : isRow 2 2 x with
    | false =>
      rw [row2_pl hr] at h
      walk_at "gk"
      rw [hr]
      exact h
    | true =>
      obtain ⟨u, v, rfl⟩ := row2 hr
      walk_at "gk"
      rw [hr]
      simp only [isPl] at h
      cases hu : isFr u <;> simpa [hu] using h
  · exact h.elim
theorem r_is_told : ∀ ds st Q, sp_is_told ds st Q → b_is_told { nx := fun _ s' => Q (.d .none) s', rt := Q } (startD N_is_told ds) st := by
  intro ds st Q h
  unfold sp_is_told sp_is_place at h
  split at h
  · rename_i x
    walk_at "st"
    unfold b_is_told
    cases hr : isRow 2 2 x with
    | false =>
      rw [row2_pl hr] at h
      walk_at "gk"
      rw [hr]
      exact h
    | true =>
      obtain ⟨u, v, rfl⟩ := row2 hr
      walk_at "gk"
      rw [hr]
      simp only [isPl] at h
      simp only [if_true, Bool.not_true, Bool.false_eq_true, if_false]
      refine lcV_pure [.d u, .d v] (unB isFr) (fun R hR => ⟨_, rfl, hR⟩) (by show 2 < sizeLine; decide) ?_ ⟨[isFr u, isFr v], rfl, ?_⟩
      · intro d hd K k
        rcases List.mem_cons.mp hd with rfl | hd
        · exact ⟨_, rfl, k⟩
        · rcases List.mem_cons.mp hd with rfl | hd
          · exact ⟨_, rfl, k⟩
          · cases hd
      · simpa using h
  · exact h.elim
theorem r_is_point : ∀ ds st Q, sp_is_point ds st Q → b_is_point { nx := fun _ s' => Q (.d .none) s', rt := Q } (startD N_is_point ds) st := by
  intro ds st Q h
  unfold sp_is_point sp_is_place at h
  split at h
  · rename_i x
    walk_at "st"
    unfold b_is_point
    walk_at "gk"
    exact h
  · exact h.elim
theorem Pt.Ok.pl {p : Pt} (h : p.Ok) : isPl p.py = true := by
  show (decide (0 < p.b) && decide (gc p.a p.b = 1) && (decide (0 < p.d) && decide (gc p.c p.d = 1))) = true
  rw [decide_eq_true h.hb, decide_eq_true h.hd, decide_eq_true h.g1, decide_eq_true h.g2]
  rfl
theorem r_is_stretch : ∀ ds st Q, sp_is_stretch ds st Q → b_is_stretch { nx := fun _ s' => Q (.d .none) s', rt := Q } (startD N_is_stretch ds) st := by
  rintro ds st Q ⟨p, q, rfl, hp, hq, ne, h⟩
  walk_at "st"
  unfold b_is_stretch
  walk_at "gk"
  have e : isRow 2 2 (.tuple [p.py, q.py]) = true := rfl
  rw [e]
  simp only [if_true, hp.pl, hq.pl]
  show SeqAt.shaped p.py = true ∧ SeqAt.shaped q.py = true ∧ _
  refine ⟨pt_sh, pt_sh, ?_⟩
  rw [pt_eqv, decide_eq_false ne]
  exact h
theorem r_check_point : ∀ ds st Q, sp_check_point ds st Q → b_check_point { nx := fun _ s' => Q (.d .none) s', rt := Q } (startD N_check_point ds) st := by
  rintro ds st Q ⟨p, rfl, hp, h⟩
  walk_at "st"
  unfold b_check_point
  walk_at "gk"
  rw [hp.pl]
  exact h
theorem r_check_segment : ∀ ds st Q, sp_check_segment ds st Q → b_check_segment { nx := fun _ s' => Q (.d .none) s', rt := Q } (startD N_check_segment ds) st := by
  rintro ds st Q ⟨p, q, rfl, hp, hq, ne, h⟩
  walk_at "st"
  unfold b_check_segment
  walk_at "gk"
  exact ⟨p, q, rfl, hp, hq, ne, h⟩
end LB
namespace LB
open PySem PySem.Spec PyProof.Rows L2 DL
theorem scT_B {p : Pt} (h : p.Ok) : B 4800 (scT p).x ∧ B 4800 (scT p).y ∧ B 3200 (scT p).w := by
  have l := lcm_B h.bb h.bd
  exact ⟨B_mul h.ba (B_div l) (by decide), B_mul h.bc (B_div l) (by decide), l⟩
theorem crT_B {p q : Tr} (h : B 4800 p.x ∧ B 4800 p.y ∧ B 3200 p.w) (g : B 4800 q.x ∧ B 4800 q.y ∧ B 3200 q.w) : B 10000 (crT p q).x ∧ B 10000 (crT p q).y ∧ B 10000 (crT p q).w := by
  obtain ⟨h1, h2, h3⟩ := h
  obtain ⟨g1, g2, g3⟩ := g
  have m : ∀ {i j}, B 4800 i → B 4800 j → B 9600 (i * j) := fun h g => B_mul h g (by decide)
  have h3 := B_mono h3 (n := 4800) (by decide)
  have g3 := B_mono g3 (n := 4800) (by decide)
  exact ⟨B_sub (m h2 g3) (m h3 g2) (by decide) (by decide), B_sub (m h3 g1) (m h1 g3) (by decide) (by decide), B_sub (m h1 g2) (m h2 g1) (by decide) (by decide)⟩
theorem r_side_of : ∀ ds st Q, sp_side_of ds st Q → b_side_of { nx := fun _ s' => Q (.d .none) s', rt := Q } (startD N_side_of ds) st := by
  rintro ds st Q ⟨p, q, r, rfl, hp, hq, hr, h⟩
  walk_at "st"
  unfold b_side_of
  have bp := scT_B hp
  have bq := scT_B hq
  have br := scT_B hr
  have bc := crT_B bp bq
  have m : ∀ {i}, B 4800 i → B 8000 i := fun h => B_mono h (by decide)
  have m8 : ∀ {i}, B 3200 i → B 8000 i := fun h => B_mono h (by decide)
  have n : ∀ {i}, B 4800 i → B 20000 i := fun h => B_mono h (by decide)
  have n8 : ∀ {i}, B 3200 i → B 20000 i := fun h => B_mono h (by decide)
  have n5 : ∀ {i}, B 10000 i → B 20000 i := fun h => B_mono h (by decide)
  refine ⟨_, rfl, hp.hb, hp.hd, hp.ba, hp.bb, hp.bc, hp.bd, ?_⟩
  refine ⟨_, rfl, hq.hb, hq.hd, hq.ba, hq.bb, hq.bc, hq.bd, ?_⟩
  refine ⟨⟨m bp.1, m bp.2.1, m8 bp.2.2⟩, ⟨m bq.1, m bq.2.1, m8 bq.2.2⟩, ?_⟩
  refine ⟨_, rfl, hr.hb, hr.hd, hr.ba, hr.bb, hr.bc, hr.bd, ?_⟩
  refine ⟨⟨n5 bc.1, n5 bc.2.1, n5 bc.2.2⟩, ⟨n br.1, n br.2.1, n8 br.2.2⟩, ?_⟩
  exact .inl h
theorem r_turn_of : ∀ ds st Q, sp_turn_of ds st Q → b_turn_of { nx := fun _ s' => Q (.d .none) s', rt := Q } (startD N_turn_of ds) st := by
  rintro ds st Q ⟨p, q, r, rfl, hp, hq, hr, h⟩
  walk_at "st"
  refine ⟨_, rfl, p, rfl, hp, _, rfl, q, rfl, hq, _, rfl, r, rfl, hr, ?_⟩
  exact ⟨_, rfl, _, rfl, _, rfl, p, q, r, rfl, hp, hq, hr, .inl h⟩
theorem r_is_ahead : ∀ ds st Q, sp_is_ahead ds st Q → b_is_ahead { nx := fun _ s' => Q (.d .none) s', rt := Q } (startD N_is_ahead ds) st := by
  rintro ds st Q ⟨p, q, rfl, hp, hq, h⟩
  walk_at "st"
  unfold b_is_ahead b_is_ahead_1 b_is_ahead_2
  simp only [Pt.py]
  walk_at "gk"
  show SeqAt.shaped (fr p.a p.b) = true ∧ SeqAt.shaped (fr q.a q.b) = true ∧ _
  refine ⟨fr_sh, fr_sh, ?_⟩
  rw [fr_eqv]
  unfold ahead at h
  by_cases e : p.a = q.a ∧ p.b = q.b
  · rw [if_pos e] at h
    rw [decide_eq_true e.1, decide_eq_true e.2]
    exact ⟨⟨hp.bc, hp.bd, hq.bc, hq.bd⟩, h⟩
  · rw [if_neg e] at h
    have e2 : (decide (p.a = q.a) && decide (p.b = q.b)) = false := by
      rw [Bool.eq_false_iff]
      simpa using e
    rw [e2]
    exact ⟨⟨hp.ba, hp.bb, hq.ba, hq.bb⟩, h⟩
theorem r_in_order : ∀ ds st Q, sp_in_order ds st Q → b_in_order { nx := fun _ s' => Q (.d .none) s', rt := Q } (startD N_in_order ds) st := by
  rintro ds st Q ⟨p, q, rfl, hp, hq, h⟩
  walk_at "st"
  unfold b_in_order b_in_order_1 b_in_order_2
  walk_at "gk"
  refine ⟨q, p, rfl, hq, hp, ?_⟩
  cases e : ahead q p with
  | true =>
    rw [e] at h
    exact ⟨big_ok (by decide), h⟩
  | false =>
    rw [e] at h
    exact ⟨big_ok (by decide), h⟩
theorem r_lies_on : ∀ ds st Q, sp_lies_on ds st Q → b_lies_on { nx := fun _ s' => Q (.d .none) s', rt := Q } (startD N_lies_on ds) st := by
  rintro ds st Q ⟨p, q, r, rfl, hp, hq, hr, h⟩
  walk_at "st"
  unfold b_lies_on b_lies_on_1 b_lies_on_2 b_lies_on_3
  walk_at "gk"
  refine ⟨p, q, r, rfl, hp, hq, hr, ?_⟩
  unfold onP at h
  by_cases e : sideP p q r = 0
  · rw [if_neg (by simpa using e)] at h
    show if (!decide (sideP p q r = 0)) = true then _ else _
    rw [decide_eq_true e, if_neg (by decide)]
    refine ⟨p, q, rfl, hp, hq, ?_⟩
    cases a : ahead q p with
    | true =>
      rw [a, if_pos rfl] at h
      refine .inl ⟨rfl, ?_⟩
      walk_at "gk"
      refine ⟨r, q, rfl, hr, hq, ?_⟩
      cases a1 : ahead r q with
      | true =>
        rw [a1] at h
        exact h
      | false =>
        rw [a1] at h
        refine ⟨p, r, rfl, hp, hr, ?_⟩
        exact h
    | false =>
      rw [a, if_neg (by decide)] at h
      refine .inl ⟨rfl, ?_⟩
      walk_at "gk"
      refine ⟨r, p, rfl, hr, hp, ?_⟩
      cases a1 : ahead r p with
      | true =>
        rw [a1] at h
        exact h
      | false =>
        rw [a1] at h
        refine ⟨q, r, rfl, hq, hr, ?_⟩
        exact h
  · rw [if_pos e] at h
    show if (!decide (sideP p q r = 0)) = true then _ else _
    rw [decide_eq_false e, if_pos (by decide)]
    exact h
theorem r_is_on : ∀ ds st Q, sp_is_on ds st Q → b_is_on { nx := fun _ s' => Q (.d .none) s', rt := Q } (startD N_is_on ds) st := by
  rintro ds st Q ⟨p, q, r, rfl, hp, hq, hr, ne, h⟩
  walk_at "st"
  refine ⟨_, rfl, p, q, rfl, hp, hq, ne, _, rfl, r, rfl, hr, ?_⟩
  exact ⟨_, rfl, _, rfl, p, q, r, rfl, hp, hq, hr, .inl h⟩
theorem r_l_lies_on : ∀ ds st Q, sp_l_lies_on ds st Q → b_l_lies_on { nx := fun _ s' => Q (.d .none) s', rt := Q } (startD N_l_lies_on ds) st := by
  intro ds st Q h
  unfold sp_l_lies_on at h
  split at h
  · rename_i x y w x' y' w' x'' y'' w''
    obtain ⟨h1, h2, h3, h⟩ := h
    walk_at "st"
    unfold b_l_lies_on b_l_lies_on_1 b_l_lies_on_2 b_l_lies_on_3
    walk_at "gk"
    refine ⟨h1, h2, h3, ?_⟩
    unfold onT at h
    by_cases e : det ⟨x, y, w⟩ ⟨x', y', w'⟩ ⟨x'', y'', w''⟩ = 0
    · rw [if_neg (by simpa using e)] at h
      show if (!decide (det ⟨x, y, w⟩ ⟨x', y', w'⟩ ⟨x'', y'', w''⟩ = 0)) = true then _ else _
      rw [decide_eq_true e, if_neg (by decide)]
      refine ⟨h1, h2, ?_⟩
      cases a : lessT ⟨x, y, w⟩ ⟨x', y', w'⟩ with
      | true =>
        rw [a, if_pos rfl] at h
        walk_at "gk"
        refine ⟨big_ok (by decide), h3, h1, ?_⟩
        cases a1 : lessT ⟨x'', y'', w''⟩ ⟨x, y, w⟩ with
        | true =>
          rw [a1] at h
          exact h
        | false =>
          rw [a1] at h
          exact ⟨h2, h3, h⟩
      | false =>
        rw [a, if_neg (by decide)] at h
        walk_at "gk"
        refine ⟨big_ok (by decide), h3, h2, ?_⟩
        cases a1 : lessT ⟨x'', y'', w''⟩ ⟨x', y', w'⟩ with
        | true =>
          rw [a1] at h
          exact h
        | false =>
          rw [a1] at h
          exact ⟨h1, h3, h⟩
    · rw [if_pos e] at h
      show if (!decide (det ⟨x, y, w⟩ ⟨x', y', w'⟩ ⟨x'', y'', w''⟩ = 0)) = true then _ else _
      rw [decide_eq_false e, if_pos (by decide)]
      exact h
  · exact h.elim
end LB
namespace LB
open PySem PySem.Spec PyProof.Rows L2 DL
/-- a place is told by a point -/
structure Rel (p : Pt) (t : Tr) : Prop where
  hx : t.x * p.b = p.a * t.w
  hy : t.y * p.d = p.c * t.w
  hw : 0 < t.w
  hb : 0 < p.b
  hd : 0 < p.d
theorem sgn_neg (n : Int) : sgn (-n) = 0 - sgn n := by
  unfold sgn
  split <;> split <;> first | omega | (split <;> split <;> omega) | (split <;> omega)
theorem sgn_scale {k l m n : Int} (hk : 0 < k) (hl : 0 < l) (h : k * m = l * n) : sgn m = sgn n := by
  rcases Int.lt_trichotomy m 0 with hm | hm | hm
  · have : l * n < 0 := by
      rw [← h]
      exact Int.mul_neg_of_pos_of_neg hk hm
    have hn : n < 0 := by
      rcases Int.lt_or_le n 0 with h1 | h1
      · exact h1
      · have := Int.mul_nonneg (Int.le_of_lt hl) h1
        omega
    unfold sgn
    rw [if_neg (by omega), if_neg (by omega), if_neg (by omega), if_neg (by omega)]
  · subst hm
    rw [Int.mul_zero] at h
    rcases Int.mul_eq_zero.mp h.symm with h1 | h1
    · omega
    · rw [h1]
  · have : 0 < l * n := by
      rw [← h]
      exact Int.mul_pos hk hm
    have hn : 0 < n := by
      rcases Int.lt_or_le 0 n with h1 | h1
      · exact h1
      · have := Int.mul_nonpos_of_nonneg_of_nonpos (Int.le_of_lt hl) h1
        omega
    unfold sgn
    rw [if_neg (by omega), if_pos hm, if_neg (by omega), if_pos hn]
theorem sgn_lt {m : Int} : sgn m = -1 ↔ m < 0 := by
  unfold sgn
  split
  · omega
  · split <;> omega
theorem sgn_zero {m : Int} : sgn m = 0 ↔ m = 0 := by
  unfold sgn
  split
  · omega
  · split <;> omega
theorem rel_same {p : Pt} {t u : Tr} (h : Rel p t) (g : Rel p u) : u.w * t.x = t.w * u.x ∧ u.w * t.y = t.w * u.y := by
  obtain ⟨h1, h2, h3, h4, h5⟩ := h
  obtain ⟨g1, g2, g3, g4, g5⟩ := g
  constructor
  · have : p.b * (u.w * t.x) = p.b * (t.w * u.x) := by grind
    exact Int.eq_of_mul_eq_mul_left (by omega) this
  · have : p.d * (u.w * t.y) = p.d * (t.w * u.y) := by grind
    exact Int.eq_of_mul_eq_mul_left (by omega) this
theorem al_det {p q r : Tr} : alT (crT p q) r = det p q r := by
  unfold alT crT det
  grind
theorem det_rot {p q r : Tr} : det q r p = det p q r := by
  unfold det
  grind
theorem det_swap {p q r : Tr} : det q p r = - det p q r := by
  unfold det
  grind
theorem det_eq1 {p r : Tr} : det p p r = 0 := by
  unfold det
  grind
theorem det_s1 {t u q r : Tr} (h : u.w * t.x = t.w * u.x ∧ u.w * t.y = t.w * u.y) : u.w * det t q r = t.w * det u q r := by
  obtain ⟨h1, h2⟩ := h
  unfold det
  grind
theorem sgn_det1 {p : Pt} {t u q r : Tr} (h : Rel p t) (g : Rel p u) : sgn (det t q r) = sgn (det u q r) := sgn_scale g.hw h.hw (det_s1 (rel_same h g))
theorem sgn_det {p q r : Pt} {t u t1 u1 t2 u2 : Tr} (h : Rel p t) (g : Rel p u) (h1 : Rel q t1) (g1 : Rel q u1) (h2 : Rel r t2) (g2 : Rel r u2) : sgn (det t t1 t2) = sgn (det u u1 u2) := by
  rw [sgn_det1 h g, ← det_rot, sgn_det1 h1 g1, ← det_rot, sgn_det1 h2 g2, ← det_rot]
/-! who is ahead -/
theorem cmp_x {p q : Pt} {t u : Tr} (h : Rel p t) (g : Rel q u) : sgn (t.x * u.w - u.x * t.w) = sgn (p.a * q.b - q.a * p.b) := by
  obtain ⟨h1, h2, h3, h4, h5⟩ := h
  obtain ⟨g1, g2, g3, g4, g5⟩ := g
  refine sgn_scale (k := p.b * q.b) (l := t.w * u.w) (Int.mul_pos h4 g4) (Int.mul_pos h3 g3) ?_
  grind
theorem cmp_y {p q : Pt} {t u : Tr} (h : Rel p t) (g : Rel q u) : sgn (t.y * u.w - u.y * t.w) = sgn (p.c * q.d - q.c * p.d) := by
  obtain ⟨h1, h2, h3, h4, h5⟩ := h
  obtain ⟨g1, g2, g3, g4, g5⟩ := g
  refine sgn_scale (k := p.d * q.d) (l := t.w * u.w) (Int.mul_pos h5 g5) (Int.mul_pos h3 g3) ?_
  grind
theorem low {a b c d : Int} (hb : 0 < b) (hd : 0 < d) (h : gc a b = 1) (g : gc c d = 1) (e : a * d = c * b) : a = c ∧ b = d := by
  have h1 : Nat.Coprime a.natAbs b.natAbs := by
    unfold gc at h
    show Nat.gcd _ _ = 1
    omega
  have g1 : Nat.Coprime c.natAbs d.natAbs := by
    unfold gc at g
    show Nat.gcd _ _ = 1
    omega
  have e1 : a.natAbs * d.natAbs = c.natAbs * b.natAbs := by
    rw [← Int.natAbs_mul, ← Int.natAbs_mul, e]
  have d1 : b.natAbs ∣ d.natAbs := h1.symm.dvd_of_dvd_mul_left (by rw [e1]; exact Nat.dvd_mul_left _ _)
  have d2 : d.natAbs ∣ b.natAbs := g1.symm.dvd_of_dvd_mul_left (by rw [← e1]; exact Nat.dvd_mul_left _ _)
  have e2 := Nat.dvd_antisymm d1 d2
  have e3 : b = d := by omega
  subst e3
  exact ⟨Int.eq_of_mul_eq_mul_right (by omega) e, rfl⟩
theorem ahead_less {p q : Pt} {t u : Tr} (h : Rel p t) (g : Rel q u) (hp : p.Ok) (hq : q.Ok) : ahead p q = lessT t u := by
  have cx := cmp_x h g
  have cy := cmp_y h g
  unfold ahead lessT
  by_cases e : p.a * q.b - q.a * p.b = 0
  · have e1 := low hp.hb hq.hb hp.g1 hq.g1 (show p.a * q.b = q.a * p.b by omega)
    have e2 : t.x * u.w - u.x * t.w = 0 := by
      rw [← sgn_zero, cx, sgn_zero, e]
    rw [if_pos e1, if_neg (by omega), Bool.eq_iff_iff, decide_eq_true_iff, decide_eq_true_iff]
    have := @sgn_lt (t.y * u.w - u.y * t.w)
    have := @sgn_lt (p.c * q.d - q.c * p.d)
    rw [cy] at *
    omega
  · have e2 : ¬ t.x * u.w - u.x * t.w = 0 := by
      rw [← sgn_zero, cx, sgn_zero]
      exact e
    rw [if_neg (fun z => e (by rw [z.1, z.2]; omega)), if_pos (by omega), Bool.eq_iff_iff, decide_eq_true_iff, decide_eq_true_iff]
    have := @sgn_lt (t.x * u.w - u.x * t.w)
    have := @sgn_lt (p.a * q.b - q.a * p.b)
    rw [cx] at *
    omega
theorem ahead_irr {p : Pt} : ahead p p = false := by
  unfold ahead
  rw [if_pos ⟨rfl, rfl⟩, decide_eq_false (by omega)]
theorem ahead_tri {p q : Pt} (hp : p.Ok) (hq : q.Ok) (ne : p ≠ q) : ahead q p = !ahead p q := by
  unfold ahead
  by_cases e : p.a = q.a ∧ p.b = q.b
  · rw [if_pos e, if_pos ⟨e.1.symm, e.2.symm⟩]
    have : ¬ p.c * q.d = q.c * p.d := fun z => by
      have := low hp.hd hq.hd hp.g2 hq.g2 z
      apply ne
      obtain ⟨a, b, c, d⟩ := p
      obtain ⟨a', b', c', d'⟩ := q
      simp only [] at *
      rw [e.1, e.2, this.1, this.2]
    by_cases l : p.c * q.d < q.c * p.d
    · rw [decide_eq_true l, decide_eq_false (by omega)]
      rfl
    · rw [decide_eq_false l, decide_eq_true (by omega)]
      rfl
  · rw [if_neg e, if_neg (fun z => e ⟨z.1.symm, z.2.symm⟩)]
    have : ¬ p.a * q.b = q.a * p.b := fun z => e (low hp.hb hq.hb hp.g1 hq.g1 z)
    by_cases l : p.a * q.b < q.a * p.b
    · rw [decide_eq_true l, decide_eq_false (by omega)]
      rfl
    · rw [decide_eq_false l, decide_eq_true (by omega)]
      rfl
end LB
namespace LB
open PySem PySem.Spec PyProof.Rows L2 DL
theorem cancel {g a : Int} (h : g ∣ a) : g * (a / g) = a := Int.mul_ediv_cancel' h
theorem gc_dl (a b : Int) : gc a b ∣ a := by
  unfold gc
  exact Int.ofNat_dvd_left.mpr (Nat.gcd_dvd_left _ _)
theorem gc_dr (a b : Int) : gc a b ∣ b := by
  unfold gc
  exact Int.ofNat_dvd_left.mpr (Nat.gcd_dvd_right _ _)
theorem gc_nn (a b : Int) : 0 ≤ gc a b := by
  unfold gc
  omega
theorem div_pos {g b : Int} (hb : 0 < b) (hg : 0 < g) (h : g ∣ b) : 0 < b / g := Int.ediv_pos_of_pos_of_dvd hb (Int.le_of_lt hg) h
theorem place_x {x y w : Int} (hw : 0 < w) : gc (gc x y) w * (placeT x y w).x = x ∧ gc (gc x y) w * (placeT x y w).y = y ∧ gc (gc x y) w * (placeT x y w).w = w ∧ 0 < gc (gc x y) w ∧ 0 < (placeT x y w).w := by
  have d1 : gc (gc x y) w ∣ x := Int.dvd_trans (gc_dl _ _) (gc_dl _ _)
  have d2 : gc (gc x y) w ∣ y := Int.dvd_trans (gc_dl _ _) (gc_dr _ _)
  have d3 : gc (gc x y) w ∣ w := gc_dr _ _
  have g : 0 < gc (gc x y) w := gc_pos hw
  exact ⟨cancel d1, cancel d2, cancel d3, g, div_pos hw g d3⟩
theorem rel_own {p : Pt} (hb : 0 < p.b) (hd : 0 < p.d) : Rel p (ownT p) := by
  obtain ⟨h1, h2, h3, h4, h5⟩ := place_x (x := p.a * p.d) (y := p.c * p.b) (w := p.b * p.d) (Int.mul_pos hb hd)
  change gc (gc (p.a * p.d) (p.c * p.b)) (p.b * p.d) * (ownT p).x = _ at h1
  change gc (gc (p.a * p.d) (p.c * p.b)) (p.b * p.d) * (ownT p).y = _ at h2
  change gc (gc (p.a * p.d) (p.c * p.b)) (p.b * p.d) * (ownT p).w = _ at h3
  change 0 < (ownT p).w at h5
  generalize gc (gc (p.a * p.d) (p.c * p.b)) (p.b * p.d) = g at *
  refine ⟨?_, ?_, h5, hb, hd⟩
  · refine Int.eq_of_mul_eq_mul_left (a := g) (by omega) ?_
    grind
  · refine Int.eq_of_mul_eq_mul_left (a := g) (by omega) ?_
    grind
theorem rel_sc {p : Pt} (hb : 0 < p.b) (hd : 0 < p.d) : Rel p (scT p) := by
  have d1 : p.b ∣ ((Nat.lcm p.b.natAbs p.d.natAbs : Nat) : Int) := Int.ofNat_dvd_right.mpr (Nat.dvd_lcm_left _ _)
  have d2 : p.d ∣ ((Nat.lcm p.b.natAbs p.d.natAbs : Nat) : Int) := Int.ofNat_dvd_right.mpr (Nat.dvd_lcm_right _ _)
  have e1 := cancel d1
  have e2 := cancel d2
  have l : 0 < ((Nat.lcm p.b.natAbs p.d.natAbs : Nat) : Int) := by
    have : 0 < Nat.lcm p.b.natAbs p.d.natAbs := Nat.lcm_pos (by omega) (by omega)
    omega
  refine ⟨?_, ?_, l, hb, hd⟩
  · show p.a * (((Nat.lcm p.b.natAbs p.d.natAbs : Nat) : Int) / p.b) * p.b = p.a * ((Nat.lcm p.b.natAbs p.d.natAbs : Nat) : Int)
    grind
  · show p.c * (((Nat.lcm p.b.natAbs p.d.natAbs : Nat) : Int) / p.d) * p.d = p.c * ((Nat.lcm p.b.natAbs p.d.natAbs : Nat) : Int)
    grind
theorem gc_low {a b : Int} (hb : 0 < b) : gc (a / gc a b) (b / gc a b) = 1 := by
  have g := gc_pos (a := a) hb
  have h : Nat.gcd (a.natAbs / Nat.gcd a.natAbs b.natAbs) (b.natAbs / Nat.gcd a.natAbs b.natAbs) = 1 := Nat.coprime_div_gcd_div_gcd (by
    unfold gc at g
    omega)
  have e1 : (a / gc a b).natAbs = a.natAbs / Nat.gcd a.natAbs b.natAbs := by
    rw [Int.natAbs_ediv_of_dvd (gc_dl a b)]
    rfl
  have e2 : (b / gc a b).natAbs = b.natAbs / Nat.gcd a.natAbs b.natAbs := by
    rw [Int.natAbs_ediv_of_dvd (gc_dr a b)]
    rfl
  show (((Nat.gcd (a / gc a b).natAbs (b / gc a b).natAbs : Nat)) : Int) = 1
  rw [e1, e2, h]
  rfl
theorem told_ok {t : Tr} (h : t.Ok 1600) : (toldP t).Ok := by
  obtain ⟨hw, hx, hy, hz⟩ := h
  exact ⟨div_pos hw (gc_pos hw) (gc_dr _ _), div_pos hw (gc_pos hw) (gc_dr _ _), gc_low hw, gc_low hw, B_div hx, B_div hz, B_div hy, B_div hz⟩
theorem rel_told {t : Tr} (hw : 0 < t.w) : Rel (toldP t) t := by
  have e1 := cancel (gc_dl t.x t.w)
  have e2 := cancel (gc_dr t.x t.w)
  have e3 := cancel (gc_dl t.y t.w)
  have e4 := cancel (gc_dr t.y t.w)
  have g1 := gc_pos (a := t.x) hw
  have g2 := gc_pos (a := t.y) hw
  refine ⟨?_, ?_, hw, div_pos hw g1 (gc_dr _ _), div_pos hw g2 (gc_dr _ _)⟩
  · show t.x * (t.w / gc t.x t.w) = t.x / gc t.x t.w * t.w
    refine Int.eq_of_mul_eq_mul_left (a := gc t.x t.w) (by omega) ?_
    generalize gc t.x t.w = g at *
    generalize t.x / g = u at *
    generalize t.w / g = v at *
    grind
  · show t.y * (t.w / gc t.y t.w) = t.y / gc t.y t.w * t.w
    refine Int.eq_of_mul_eq_mul_left (a := gc t.y t.w) (by omega) ?_
    generalize gc t.y t.w = g at *
    generalize t.y / g = u at *
    generalize t.w / g = v at *
    grind
theorem side_det {p q r : Pt} : sideP p q r = sgn (det (scT p) (scT q) (scT r)) := by
  unfold sideP
  rw [al_det]
theorem Pt.Ok.rel {p : Pt} (h : p.Ok) : Rel p (scT p) := rel_sc h.hb h.hd
theorem side_rel {p q r : Pt} {t u v : Tr} (hp : p.Ok) (hq : q.Ok) (hr : r.Ok) (h : Rel p t) (g : Rel q u) (k : Rel r v) : sideP p q r = sgn (det t u v) := by
  rw [side_det]
  exact sgn_det hp.rel h hq.rel g hr.rel k
theorem onP_rel {p q r : Pt} {t u v : Tr} (hp : p.Ok) (hq : q.Ok) (hr : r.Ok) (h : Rel p t) (g : Rel q u) (k : Rel r v) (ne : p ≠ q) : onP p q r = onT t u v := by
  unfold onP onT
  have e := sgn_zero (m := det t u v)
  rw [← side_rel hp hq hr h g k] at e
  rw [← ahead_less h g hp hq, ← ahead_less k h hr hp, ← ahead_less g k hq hr, ← ahead_less k g hr hq, ← ahead_less h k hp hr, ahead_tri hp hq ne]
  by_cases z : sideP p q r = 0
  · rw [if_neg (show ¬ sideP p q r ≠ 0 from fun w => w z), if_neg (show ¬ det t u v ≠ 0 from fun w => w (e.mp z))]
    cases ahead p q <;> rfl
  · rw [if_pos z, if_pos (show det t u v ≠ 0 from fun w => z (e.mpr w))]
theorem side_rot {p q r : Pt} : sideP q r p = sideP p q r := by
  rw [side_det, side_det, det_rot]
theorem side_swap {p q r : Pt} : sideP q p r = 0 - sideP p q r := by
  rw [side_det, side_det, det_swap, sgn_neg]
theorem side_eq1 {p r : Pt} : sideP p p r = 0 := by
  rw [side_det, det_eq1]
  rfl
theorem onP_swap {p q r : Pt} (hp : p.Ok) (hq : q.Ok) (ne : p ≠ q) : onP q p r = onP p q r := by
  unfold onP
  rw [side_swap, ahead_tri hp hq ne]
  by_cases z : sideP p q r = 0
  · rw [z]
    cases ahead p q <;> rfl
  · rw [if_pos (by omega), if_pos z]
theorem onP_end {p q : Pt} (hp : p.Ok) (hq : q.Ok) (ne : p ≠ q) : onP p q q = true := by
  unfold onP
  rw [← side_rot, side_eq1, ahead_tri hp hq ne, ahead_irr]
  cases ahead p q <;> rfl
end LB
namespace LB
open PySem PySem.Spec PyProof.Rows L2 DL
/-! ### the frame of a grid -/
def frP (x y s u w : Int) : PyData := .tuple [.int x, .int y, .int s, .int u, .int w]
structure FrOk (x y s u w : Int) : Prop where
  bx : B 20 x
  by_ : B 20 y
  s0 : 0 < s
  bs : B 20 s
  u0 : 0 < u
  bu : B 3 u
  w0 : 3 ≤ w
  w1 : w ≤ 5
def sp_frame : SpD := fun ds st Q => match ds with
  | [.own p] => spS 2 (fun d => ∃ x y s u w, d = .d (frP x y s u w) ∧ FrOk x y s u w) p st Q
  | _ => False
/-- a point of small numbers -/
structure Pt.G (p : Pt) : Prop where
  hb : 0 < p.b
  hd : 0 < p.d
  g1 : gc p.a p.b = 1
  g2 : gc p.c p.d = 1
  ba : B 45 p.a
  bb : B 20 p.b
  bc : B 45 p.c
  bd : B 20 p.d
structure Pt.Sm (p : Pt) : Prop where
  hb : 0 < p.b
  hd : 0 < p.d
  g1 : gc p.a p.b = 1
  g2 : gc p.c p.d = 1
  ba : B 110 p.a
  bb : B 110 p.b
  bc : B 110 p.c
  bd : B 110 p.d
theorem B_up {a n : Nat} {i : Int} (h : B a i) (hn : a ≤ n) : B n i := B_mono h hn
theorem Pt.G.sm {p : Pt} (h : p.G) : p.Sm := ⟨h.hb, h.hd, h.g1, h.g2, B_mono h.ba (by decide), B_mono h.bb (by decide), B_mono h.bc (by decide), B_mono h.bd (by decide)⟩
theorem Pt.Sm.ok {p : Pt} (h : p.Sm) : p.Ok := ⟨h.hb, h.hd, h.g1, h.g2, B_mono h.ba (by decide), B_mono h.bb (by decide), B_mono h.bc (by decide), B_mono h.bd (by decide)⟩
def gridP (x y s u i j n : Int) : Pt := ⟨(x * n + s * i) / gc (x * n + s * i) (u * n), (u * n) / gc (x * n + s * i) (u * n), (y * n + s * j) / gc (y * n + s * j) (u * n), (u * n) / gc (y * n + s * j) (u * n)⟩
def sp_grid : SpD := fun ds st Q => match ds with
  | [.d (.tuple [.int x, .int y, .int s, .int u, .int w]), .d (.int i), .d (.int j), .d (.int n)] => FrOk x y s u w ∧ 0 < n ∧ n < 100 ∧ B 20 i ∧ B 20 j ∧ Q (.d (gridP x y s u i j n).py) st
  | _ => False
def sp_dot : SpD := fun ds st Q => match ds with
  | [.own p, .d (.tuple [.int x, .int y, .int s, .int u, .int w])] => FrOk x y s u w ∧ spS 3 (fun d => ∃ q : Pt, d = .d q.py ∧ q.G) p st Q
  | _ => False
/-- neighbours unlike -/
def Chain : List Pt → Prop
  | a :: b :: r => a ≠ b ∧ Chain (b :: r)
  | _ => True
def sp_row : SpD := fun ds st Q => match ds with
  | [.own p, .d (.tuple [.int x, .int y, .int s, .int u, .int w]), .d (.int m), .d (.bool c)] => FrOk x y s u w ∧ 1 ≤ m ∧ m ≤ 20 ∧
    spS 20 (fun d => ∃ ps : List Pt, d = .d (.tuple (ps.map Pt.py)) ∧ ps.length = m.toNat ∧ (∀ q ∈ ps, q.G) ∧ Chain ps ∧ (c = true → 2 ≤ m → ps[ps.length - 1]? ≠ ps[0]?)) p st Q
  | _ => False
/-! ### the law's own meetings -/
/-- a place in lowest terms -/
structure Tr.Lo (n : Nat) (t : Tr) : Prop where
  ok : t.Ok n
  low : gc (gc t.x t.y) t.w = 1
def botT : List Tr → Int → Int
  | [], f => f
  | t :: r, f => botT r (f / gc f t.w * t.w)
def RowOf (ts : List Tr) (x : PyData) : Prop := x = .list (ts.map Tr.py) ∨ x = .tuple (ts.map Tr.py)
def sp_bottom : SpD := fun ds st Q => ∃ (ts : List Tr) (x : PyData), ds = [.d x] ∧ RowOf ts x ∧ ts.length ≤ 100 ∧ (∀ t ∈ ts, t.Ok 1000) ∧ Q (I (botT ts 1)) st
def sp_rising : SpD := fun ds st Q => ∃ (ts : List Tr) (x : PyData), ds = [.d x] ∧ RowOf ts x ∧ ts.length ≤ 100 ∧ (∀ t ∈ ts, t.Lo 1000) ∧
  ∀ out : List Tr, (∀ t, t ∈ out ↔ t ∈ ts) → out.Pairwise (fun a b => lessT a b = true) → out.length ≤ ts.length → Q (.d (.list (out.map Tr.py))) st
def crossS (p q r s : Tr) : Tr := placeS (det r s p * q.x - det r s q * p.x) (det r s p * q.y - det r s q * p.y) (det r s p * q.w - det r s q * p.w)
/-- what the law's own sums tell -/
def MeetR (p q r s : Tr) (out : List Tr) : Prop :=
  if det p q r = 0 ∧ det p q s = 0 then (∀ t, t ∈ out ↔ (t ∈ [p, q] ∧ onT r s t = true) ∨ (t ∈ [r, s] ∧ onT p q t = true)) ∧ out.Pairwise (fun a b => lessT a b = true)
  else if 0 < det r s p * det r s q ∨ 0 < det p q r * det p q s then out = [] else out = [crossS p q r s]
def sp_l_meet : SpD := fun ds st Q => ∃ p q r s : Tr, ds = [.d (.tuple [p.py, q.py]), .d (.tuple [r.py, s.py])] ∧ p.Lo 230 ∧ q.Lo 230 ∧ r.Lo 230 ∧ s.Lo 230 ∧ p ≠ q ∧ r ≠ s ∧
  ∀ out : List Tr, MeetR p q r s out → (∀ t ∈ out, t.Lo 1000) → out.length ≤ 4 → Q (.d (.list (out.map Tr.py))) st
def pairT (z : Tr × Tr) : PyData := .tuple [z.1.py, z.2.py]
def pairP (z : Pt × Pt) : PyData := .tuple [z.1.py, z.2.py]
def sp_places : SpD := fun ds st Q => ∃ zs : List (Pt × Pt), ds = [.d (.list (zs.map pairP))] ∧ zs.length ≤ 100 ∧ (∀ z ∈ zs, z.1.Sm ∧ z.2.Sm) ∧ Q (.d (.list (zs.map fun z => pairT (ownT z.1, ownT z.2)))) st
def sp_middle : SpD := fun ds st Q => ∃ p q : Tr, ds = [.d p.py, .d q.py] ∧ p.Ok 230 ∧ q.Ok 230 ∧ ∀ r : Tr, r.Lo 1000 → Q (.d r.py) st
def sp_any_place : SpD := fun ds st Q => ∃ (p : Addr) (x y s u w : Int) (zs : List (Tr × Tr)) (ls : List Tr), ds = [.own p, .d (frP x y s u w), .d (.list (zs.map pairT)), .d (.list (ls.map Tr.py))] ∧ FrOk x y s u w ∧ zs.length < 100 ∧ ls.length < 100 ∧
  (∀ z ∈ zs, z.1.Lo 230 ∧ z.2.Lo 230 ∧ z.1 ≠ z.2) ∧ (∀ t ∈ ls, t.Lo 1000) ∧ spS 4 (fun d => ∃ t : Tr, d = .d t.py ∧ t.Lo 1000) p st Q
/-! ### what two segments have in common -/
def fracD (t b : Int) : PyData := if 0 < b then partD t b else partD (-t) (-b)
def sp_fraction : SpD := fun ds st Q => match ds with
  | [.d (.int t), .d (.int b)] => b ≠ 0 ∧ B 8000 t ∧ B 8000 b ∧ Q (.d (fracD t b)) st
  | _ => False
def unscP (t : Tr) : Pt := if 0 < t.w then toldP t else toldP ⟨-t.x, -t.y, -t.w⟩
def sp_unscaled : SpD := fun ds st Q => match ds with
  | [.d (.tuple [.int x, .int y, .int w])] => w ≠ 0 ∧ B 8000 x ∧ B 8000 y ∧ B 8000 w ∧ Q (.d (unscP ⟨x, y, w⟩).py) st
  | _ => False
def loP (p q : Pt) : Pt := if ahead q p then q else p
def hiP (p q : Pt) : Pt := if ahead q p then p else q
def overP (p q r s : Pt) : List Pt :=
  let l := if ahead (loP p q) (loP r s) then loP r s else loP p q
  let h := if ahead (hiP r s) (hiP p q) then hiP r s else hiP p q
  if l = h then [l] else if ahead l h then [l, h] else []
def sp_overlap : SpD := fun ds st Q => ∃ p q r s : Pt, ds = [.d (.tuple [p.py, q.py]), .d (.tuple [r.py, s.py])] ∧ p.Ok ∧ q.Ok ∧ r.Ok ∧ s.Ok ∧ Q (.d (.tuple ((overP p q r s).map Pt.py))) st
def meetP (p q r s : Pt) : List Pt :=
  if sideP p q r = 0 ∧ sideP p q s = 0 then overP p q r s
  else if 0 < sideP p q r * sideP p q s ∨ 0 < sideP r s p * sideP r s q then []
  else [unscP (crT (crT (scT p) (scT q)) (crT (scT r) (scT s)))]
def sp_meet : SpD := fun ds st Q => ∃ p q r s : Pt, ds = [.d (.tuple [p.py, q.py]), .d (.tuple [r.py, s.py])] ∧ p.Sm ∧ q.Sm ∧ r.Sm ∧ s.Sm ∧ p ≠ q ∧ r ≠ s ∧ Q (.d (.tuple ((meetP p q r s).map Pt.py))) st
def sp_common : SpD := sp_meet
end LB
namespace LB
open PySem PySem.Spec PyProof.Rows L2 DL
abbrev N_fraction : List Str := ["upper", "lower", "shared"]
abbrev N_unscaled : List Str := ["triple", "x", "y", "w"]
abbrev N_overlap : List Str := ["segment", "other", "low", "high", "other_low", "other_high"]
abbrev N_meet : List Str := ["segment", "other", "line", "other_line", "sides", "other_sides", "end"]
abbrev N_common : List Str := ["segment", "other_segment"]
abbrev N_bottom : List Str := ["_law_places_here", "_law_found", "_law_each"]
abbrev N_rising : List Str := ["_law_places_here", "_law_by", "_law_some", "_law_each", "_law_at"]
abbrev N_l_meet : List Str := ["_law_one", "_law_two_here", "_law_p", "_law_q", "_law_r", "_law_s", "_law_a", "_law_b", "_law_c", "_law_d", "_law_ends", "_law_each"]
abbrev N_frame : List Str := ["_law_spring_here", "_law_wide", "_law_x", "_law_y", "_law_step", "_law_under"]
abbrev N_grid : List Str := ["_law_frame_here", "_law_i", "_law_j", "_law_n", "_law_x", "_law_y", "_law_step", "_law_under", "_law_wide"]
abbrev N_dot : List Str := ["_law_spring_here", "_law_frame_here", "_law_n", "_law_i", "_law_j"]
abbrev N_row : List Str := ["_law_spring_here", "_law_frame_here", "_law_many", "_law_is_closed", "_law_wide", "_law_found", "_law_turn", "_law_shut", "_law_each"]
abbrev N_places : List Str := ["_law_lines", "_law_each"]
abbrev N_middle : List Str := ["_law_p", "_law_q"]
abbrev N_any_place : List Str := ["_law_spring_here", "_law_frame_here", "_law_shuts", "_law_lone", "_law_branch", "_law_one", "_law_two_here", "_law_some"]
def b_fraction_1 : TSd := (dAsg (dCall cGcd (dCons (dVar 0) (dCons (dVar 1) dNil))) (hName 2))
def b_fraction_2 : TSd := (dIfS (dTst (dBin rLtD (dVar 1) (dC (.int 0)))) (dAsg (dNeg (dVar 2)) (hName 2)) dNext)
def b_fraction_3 : TSd := (dRet (dTup (dCons (dBin rDivF (dVar 0) (dVar 2)) (dCons (dBin rDivF (dVar 1) (dVar 2)) dNil))))
def b_fraction : TSd := (dSeq b_fraction_1 (dSeq b_fraction_2 b_fraction_3))
def b_unscaled_1 : TSd := (dAsg (dVar 0) (hTup 3 (hCons (hName 1) (hCons (hName 2) (hCons (hName 3) hNil)))))
def b_unscaled_2 : TSd := (dRet (dTup (dCons (dFn0 sp_fraction (dCons (dVar 1) (dCons (dVar 3) dNil))) (dCons (dFn0 sp_fraction (dCons (dVar 2) (dCons (dVar 3) dNil))) dNil))))
def b_unscaled : TSd := (dSeq b_unscaled_1 b_unscaled_2)
def b_overlap_1 : TSd := (dAsg (dFn0 sp_in_order (dCons (dVar 0) dNil)) (hTup 2 (hCons (hName 2) (hCons (hName 3) hNil))))
def b_overlap_2 : TSd := (dAsg (dFn0 sp_in_order (dCons (dVar 1) dNil)) (hTup 2 (hCons (hName 4) (hCons (hName 5) hNil))))
def b_overlap_3 : TSd := (dIfS (dTst (dFn0 sp_is_ahead (dCons (dVar 2) (dCons (dVar 4) dNil)))) (dAsg (dVar 4) (hName 2)) dNext)
def b_overlap_4 : TSd := (dIfS (dTst (dFn0 sp_is_ahead (dCons (dVar 5) (dCons (dVar 3) dNil)))) (dAsg (dVar 5) (hName 3)) dNext)
def b_overlap_5 : TSd := (dIfS (dTst (dBin rEqV (dVar 2) (dVar 3))) (dRet (dTup (dCons (dVar 2) dNil))) dNext)
def b_overlap_6 : TSd := (dRet (dIf (dTst (dFn0 sp_is_ahead (dCons (dVar 2) (dCons (dVar 3) dNil)))) (dTup (dCons (dVar 2) (dCons (dVar 3) dNil))) (dTup dNil)))
def b_overlap : TSd := (dSeq b_overlap_1 (dSeq b_overlap_2 (dSeq b_overlap_3 (dSeq b_overlap_4 (dSeq b_overlap_5 b_overlap_6)))))
def b_meet_1 : TSd := (dAsg (dFn0 sp_crossed (dCons (dFn0 sp_scaled (dCons (dBin rIxD (dVar 0) (dC (.int 0))) dNil)) (dCons (dFn0 sp_scaled (dCons (dBin rIxD (dVar 0) (dC (.int 1))) dNil)) dNil))) (hName 2))
def b_meet_2 : TSd := (dAsg (dFn0 sp_crossed (dCons (dFn0 sp_scaled (dCons (dBin rIxD (dVar 1) (dC (.int 0))) dNil)) (dCons (dFn0 sp_scaled (dCons (dBin rIxD (dVar 1) (dC (.int 1))) dNil)) dNil))) (hName 3))
def b_meet_3 : TSd := (dAsg (dLcV (dIter (dVar 1)) 6 dYes (dFn0 sp_sign (dCons (dFn0 sp_along (dCons (dVar 2) (dCons (dFn0 sp_scaled (dCons (dVar 6) dNil)) dNil))) dNil))) (hName 4))
def b_meet_4 : TSd := (dIfS (dTst (dBin rEqV (dVar 4) (dLstV (dCons (dC (.int 0)) (dCons (dC (.int 0)) dNil))))) (dRet (dFn0 sp_overlap (dCons (dVar 0) (dCons (dVar 1) dNil)))) dNext)
def b_meet_5 : TSd := (dAsg (dLcV (dIter (dVar 0)) 6 dYes (dFn0 sp_sign (dCons (dFn0 sp_along (dCons (dVar 3) (dCons (dFn0 sp_scaled (dCons (dVar 6) dNil)) dNil))) dNil))) (hName 5))
def b_meet_6 : TSd := (dIfS (dOrT (dTst (dBin rGtD (dBin rMulD (dBin rIxD (dVar 4) (dC (.int 0))) (dBin rIxD (dVar 4) (dC (.int 1)))) (dC (.int 0)))) (dTst (dBin rGtD (dBin rMulD (dBin rIxD (dVar 5) (dC (.int 0))) (dBin rIxD (dVar 5) (dC (.int 1)))) (dC (.int 0))))) (dRet (dTup dNil)) dNext)
def b_meet_7 : TSd := (dRet (dTup (dCons (dFn0 sp_unscaled (dCons (dFn0 sp_crossed (dCons (dVar 2) (dCons (dVar 3) dNil))) dNil)) dNil)))
def b_meet : TSd := (dSeq b_meet_1 (dSeq b_meet_2 (dSeq b_meet_3 (dSeq b_meet_4 (dSeq b_meet_5 (dSeq b_meet_6 b_meet_7))))))
def b_common_1 : TSd := (dDrop (dFn0 sp_check_segment (dCons (dVar 0) dNil)))
def b_common_2 : TSd := (dDrop (dFn0 sp_check_segment (dCons (dVar 1) dNil)))
def b_common_3 : TSd := (dRet (dFn0 sp_meet (dCons (dVar 0) (dCons (dVar 1) dNil))))
def b_common : TSd := (dSeq b_common_1 (dSeq b_common_2 b_common_3))
def b_bottom_1 : TSd := (dAsg (dC (.int 1)) (hName 1))
def b_bottom_2 : TSd := (dFor (dIter (dVar 0)) (hName 2) (dAsg (dBin rMulD (dBin rDivD (dVar 1) (dFn0 sp_divisor (dCons (dVar 1) (dCons (dBin rIxD (dVar 2) (dC (.int 2))) dNil)))) (dBin rIxD (dVar 2) (dC (.int 2)))) (hName 1)))
def b_bottom_3 : TSd := (dRet (dVar 1))
def b_bottom : TSd := (dSeq b_bottom_1 (dSeq b_bottom_2 b_bottom_3))
def b_rising_1 : TSd := (dAsg (dFn0 sp_bottom (dCons (dVar 0) dNil)) (hName 1))
def b_rising_2 : TSd := (dAsg (dCall cSorted (dCons (dLcV (dIter (dVar 0)) 3 dYes (dTup (dCons (dBin rMulD (dBin rIxD (dVar 3) (dC (.int 0))) (dBin rDivD (dVar 1) (dBin rIxD (dVar 3) (dC (.int 2))))) (dCons (dBin rMulD (dBin rIxD (dVar 3) (dC (.int 1))) (dBin rDivD (dVar 1) (dBin rIxD (dVar 3) (dC (.int 2))))) (dCons (dVar 3) dNil))))) dNil)) (hName 2))
def b_rising_3 : TSd := (dRet (dLcP mkV (dEnum (dCons (dVar 2) dNil)) (Pat.tup [(Pat.nm 4), (Pat.nm 3)]) (dOrT (dTst (dBin rEqV (dVar 4) (dC (.int 0)))) (dTst (dBin rNeV (dBin rIxD (dVar 2) (dBin rSubD (dVar 4) (dC (.int 1)))) (dVar 3)))) (dBin rIxD (dVar 3) (dC (.int 2)))))
def b_rising : TSd := (dSeq b_rising_1 (dSeq b_rising_2 b_rising_3))
def b_l_meet_1 : TSd := (dAsg (dTup (dCons (dVar 0) (dCons (dVar 1) dNil))) (hTup 2 (hCons (hTup 2 (hCons (hName 2) (hCons (hName 3) hNil))) (hCons (hTup 2 (hCons (hName 4) (hCons (hName 5) hNil))) hNil))))
def b_l_meet_2 : TSd := (dAsg (dTup (dCons (dFn0 sp_side (dCons (dVar 4) (dCons (dVar 5) (dCons (dVar 2) dNil)))) (dCons (dFn0 sp_side (dCons (dVar 4) (dCons (dVar 5) (dCons (dVar 3) dNil)))) (dCons (dFn0 sp_side (dCons (dVar 2) (dCons (dVar 3) (dCons (dVar 4) dNil)))) (dCons (dFn0 sp_side (dCons (dVar 2) (dCons (dVar 3) (dCons (dVar 5) dNil)))) dNil))))) (hTup 4 (hCons (hName 6) (hCons (hName 7) (hCons (hName 8) (hCons (hName 9) hNil))))))
def b_l_meet_3 : TSd := (dIfS (dAndT (dTst (dBin rEqV (dVar 8) (dC (.int 0)))) (dTst (dBin rEqV (dVar 9) (dC (.int 0))))) (dSeq (dAsg (dLcV (dIter (dVar 0)) 11 (dTst (dFn0 sp_l_lies_on (dCons (dVar 4) (dCons (dVar 5) (dCons (dVar 11) dNil))))) (dVar 11)) (hName 10)) (dRet (dFn0 sp_rising (dCons (dBin rAddD (dVar 10) (dLcV (dIter (dVar 1)) 11 (dTst (dFn0 sp_l_lies_on (dCons (dVar 2) (dCons (dVar 3) (dCons (dVar 11) dNil))))) (dVar 11))) dNil)))) dNext)
def b_l_meet_4 : TSd := (dIfS (dOrT (dTst (dBin rGtD (dBin rMulD (dVar 6) (dVar 7)) (dC (.int 0)))) (dTst (dBin rGtD (dBin rMulD (dVar 8) (dVar 9)) (dC (.int 0))))) (dRet (dLstV dNil)) dNext)
def b_l_meet_5 : TSd := (dRet (dLstV (dCons (dFn0 sp_place (dCons (dBin rSubD (dBin rMulD (dVar 6) (dBin rIxD (dVar 3) (dC (.int 0)))) (dBin rMulD (dVar 7) (dBin rIxD (dVar 2) (dC (.int 0))))) (dCons (dBin rSubD (dBin rMulD (dVar 6) (dBin rIxD (dVar 3) (dC (.int 1)))) (dBin rMulD (dVar 7) (dBin rIxD (dVar 2) (dC (.int 1))))) (dCons (dBin rSubD (dBin rMulD (dVar 6) (dBin rIxD (dVar 3) (dC (.int 2)))) (dBin rMulD (dVar 7) (dBin rIxD (dVar 2) (dC (.int 2))))) dNil)))) dNil)))
def b_l_meet : TSd := (dSeq b_l_meet_1 (dSeq b_l_meet_2 (dSeq b_l_meet_3 (dSeq b_l_meet_4 b_l_meet_5))))
def b_frame_1 : TSd := (dAsg (dFn0 sp_one_of (dCons (dVar 0) (dCons (dTup (dCons (dC (.int 3)) (dCons (dC (.int 4)) (dCons (dC (.int 5)) dNil)))) dNil))) (hName 1))
def b_frame_2 : TSd := (dAsg (dFn0 sp_one_of (dCons (dVar 0) (dCons (dTup (dCons (dTup (dCons (dC (.int 0)) (dCons (dC (.int 0)) (dCons (dC (.int 1)) (dCons (dC (.int 1)) dNil))))) (dCons (dTup (dCons (dC (.int 0)) (dCons (dC (.int 0)) (dCons (dC (.int 1)) (dCons (dC (.int 1)) dNil))))) (dCons (dTup (dCons (dNeg (dC (.int 2))) (dCons (dNeg (dC (.int 1))) (dCons (dC (.int 1)) (dCons (dC (.int 1)) dNil))))) (dCons (dTup (dCons (dNeg (dC (.int 3))) (dCons (dC (.int 1)) (dCons (dC (.int 1)) (dCons (dC (.int 2)) dNil))))) (dCons (dTup (dCons (dC (.int 0)) (dCons (dNeg (dC (.int 5))) (dCons (dC (.int 2)) (dCons (dC (.int 3)) dNil))))) (dCons (dTup (dCons (dC (.int 1)) (dCons (dC (.int 1)) (dCons (dC (.int 5)) (dCons (dC (.int 6)) dNil))))) (dCons (dTup (dCons (dNeg (dC (.int 700000))) (dCons (dC (.int 250001)) (dCons (dC (.int 100003)) (dCons (dC (.int 1)) dNil))))) (dCons (dTup (dCons (dNeg (dC (.int 1))) (dCons (dNeg (dC (.int 2))) (dCons (dC (.int 2)) (dCons (dC (.int 1)) dNil))))) dNil))))))))) dNil))) (hTup 4 (hCons (hName 2) (hCons (hName 3) (hCons (hName 4) (hCons (hName 5) hNil))))))
def b_frame_3 : TSd := (dRet (dTup (dCons (dVar 2) (dCons (dVar 3) (dCons (dVar 4) (dCons (dVar 5) (dCons (dVar 1) dNil)))))))
def b_frame : TSd := (dSeq b_frame_1 (dSeq b_frame_2 b_frame_3))
def b_grid_1 : TSd := (dAsg (dVar 0) (hTup 5 (hCons (hName 4) (hCons (hName 5) (hCons (hName 6) (hCons (hName 7) (hCons (hName 8) hNil)))))))
def b_grid_2 : TSd := (dRet (dTup (dCons (dFn0 sp_part (dCons (dBin rAddD (dBin rMulD (dVar 4) (dVar 3)) (dBin rMulD (dVar 6) (dVar 1))) (dCons (dBin rMulD (dVar 7) (dVar 3)) dNil))) (dCons (dFn0 sp_part (dCons (dBin rAddD (dBin rMulD (dVar 5) (dVar 3)) (dBin rMulD (dVar 6) (dVar 2))) (dCons (dBin rMulD (dVar 7) (dVar 3)) dNil))) dNil))))
def b_grid : TSd := (dSeq b_grid_1 b_grid_2)
def b_dot_1 : TSd := (dAsg (dFn0 sp_one_of (dCons (dVar 0) (dCons (dTup (dCons (dC (.int 1)) (dCons (dC (.int 1)) (dCons (dC (.int 2)) (dCons (dC (.int 2)) (dCons (dC (.int 3)) dNil)))))) dNil))) (hName 2))
def b_dot_2 : TSd := (dPar 3 4 (dCons (dFn0 sp_draw (dCons (dVar 0) (dCons (dBin rAddD (dBin rMulD (dVar 2) (dBin rIxD (dVar 1) (dC (.int 4)))) (dC (.int 1))) dNil))) (dCons (dFn0 sp_draw (dCons (dVar 0) (dCons (dBin rAddD (dBin rMulD (dVar 2) (dBin rIxD (dVar 1) (dC (.int 4)))) (dC (.int 1))) dNil))) dNil)))
def b_dot_3 : TSd := (dRet (dFn0 sp_grid (dCons (dVar 1) (dCons (dVar 3) (dCons (dVar 4) (dCons (dVar 2) dNil))))))
def b_dot : TSd := (dSeq b_dot_1 (dSeq b_dot_2 b_dot_3))
def b_row_1 : TSd := (dAsg (dBin rIxD (dVar 1) (dC (.int 4))) (hName 4))
def b_row_2 : TSd := (dAsg (dLst (dCons (dFn0 sp_draw (dCons (dVar 0) (dCons (dBin rMulD (dVar 4) (dVar 4)) dNil))) dNil)) (hName 5))
def b_row_3 : TSd := (dFor (dRng2 (dCons (dC (.int 1)) (dCons (dVar 2) dNil))) (hName 6) (dSeq (dAsg (dIf (dAndT (dTst (dVar 3)) (dTst (dBin rEqV (dVar 6) (dBin rSubD (dVar 2) (dC (.int 1)))))) (dLstV (dCons (dBin rIxD (dVar 5) (dNeg (dC (.int 1)))) (dCons (dBin rIxD (dVar 5) (dC (.int 0))) dNil))) (dLstV (dCons (dBin rIxD (dVar 5) (dNeg (dC (.int 1)))) dNil))) (hName 7)) (dDrop (dApp (dVar 5) (dFn0 sp_one_of (dCons (dVar 0) (dCons (dLcV (dRng1 (dCons (dBin rMulD (dVar 4) (dVar 4)) dNil)) 8 (dTst (dBin (rInV true) (dVar 8) (dVar 7))) (dVar 8)) dNil)))))))
def b_row_4 : TSd := (dRet (dCall cTuple (dCons (dLcV (dIter (dVar 5)) 8 dYes (dFn0 sp_grid (dCons (dVar 1) (dCons (dBin rDivD (dVar 8) (dVar 4)) (dCons (dBin rModD (dCall cInt (dCons (dVar 8) dNil)) (dVar 4)) (dCons (dC (.int 1)) dNil)))))) dNil)))
def b_row : TSd := (dSeq b_row_1 (dSeq b_row_2 (dSeq b_row_3 b_row_4)))
def b_places : TSd := (dRet (dLcV (dIter (dVar 0)) 1 dYes (dTup (dCons (dFn0 sp_own (dCons (dBin rIxD (dVar 1) (dC (.int 0))) dNil)) (dCons (dFn0 sp_own (dCons (dBin rIxD (dVar 1) (dC (.int 1))) dNil)) dNil)))))
def b_middle : TSd := (dRet (dFn0 sp_place (dCons (dBin rAddD (dBin rMulD (dBin rIxD (dVar 0) (dC (.int 0))) (dBin rIxD (dVar 1) (dC (.int 2)))) (dBin rMulD (dBin rIxD (dVar 1) (dC (.int 0))) (dBin rIxD (dVar 0) (dC (.int 2))))) (dCons (dBin rAddD (dBin rMulD (dBin rIxD (dVar 0) (dC (.int 1))) (dBin rIxD (dVar 1) (dC (.int 2)))) (dBin rMulD (dBin rIxD (dVar 1) (dC (.int 1))) (dBin rIxD (dVar 0) (dC (.int 2))))) (dCons (dBin rMulD (dBin rMulD (dC (.int 2)) (dBin rIxD (dVar 0) (dC (.int 2)))) (dBin rIxD (dVar 1) (dC (.int 2)))) dNil)))))
def b_any_place_1 : TSd := (dAsg (dFn0 sp_draw (dCons (dVar 0) (dCons (dC (.int 7)) dNil))) (hName 4))
def b_any_place_2 : TSd := (dIfS (dAndT (dTst (dBin rLtD (dVar 4) (dC (.int 4)))) (dTst (dBin rNeV (dVar 2) (dLstV dNil)))) (dSeq (dPar 5 6 (dCons (dFn0 sp_one_of (dCons (dVar 0) (dCons (dVar 2) dNil))) (dCons (dFn0 sp_one_of (dCons (dVar 0) (dCons (dVar 2) dNil))) dNil))) (dSeq (dAsg (dIf (dTst (dBin rEqV (dVar 4) (dC (.int 2)))) (dFn0 sp_l_meet (dCons (dVar 5) (dCons (dVar 6) dNil))) (dIf (dTst (dBin rEqV (dVar 4) (dC (.int 1)))) (dLstV (dCons (dBin rIxD (dVar 5) (dC (.int 0))) dNil)) (dLstV dNil))) (hName 7)) (dSeq (dIfS (dTst (dBin rNeV (dVar 7) (dLstV dNil))) (dRet (dFn0 sp_one_of (dCons (dVar 0) (dCons (dVar 7) dNil)))) dNext) (dRet (dIf (dTst (dBin rEqV (dVar 4) (dC (.int 0)))) (dFn0 sp_middle (dCons (dBin rIxD (dVar 5) (dC (.int 0))) (dCons (dBin rIxD (dVar 5) (dC (.int 1))) dNil))) (dFn0 sp_middle (dCons (dBin rIxD (dVar 6) (dC (.int 0))) (dCons (dBin rIxD (dVar 5) (dC (.int 1))) dNil)))))))) dNext)
def b_any_place_3 : TSd := (dIfS (dAndT (dTst (dBin rEqV (dVar 4) (dC (.int 4)))) (dTst (dBin rNeV (dVar 3) (dLstV dNil)))) (dRet (dFn0 sp_one_of (dCons (dVar 0) (dCons (dVar 3) dNil)))) dNext)
def b_any_place_4 : TSd := (dRet (dFn0 sp_own (dCons (dFn0 sp_dot (dCons (dVar 0) (dCons (dVar 1) dNil))) dNil)))
def b_any_place : TSd := (dSeq b_any_place_1 (dSeq b_any_place_2 (dSeq b_any_place_3 b_any_place_4)))
end LB
local macro_rules | `(tactic| walk_at "val") => `(tactic| repeat' (first | exact DL.vls_nil | apply DL.vls_cons | exact DL.val_c | exact DL.val_dict | exact DL.val_neg | exact DL.val_var rfl | apply DL.val_tup | apply DL.val_lst | apply DL.val_lstV | exact DL.val_pow ⟨by decide, by decide, by decide⟩ | decide))
local macro_rules | `(tactic| walk_at "st") => `(tactic| simp only [DL.startD, List.map_cons, List.map_nil, List.length_cons, List.length_nil, Nat.reduceAdd, Nat.reduceSub, List.replicate_succ, List.replicate_zero, List.cons_append, List.nil_append, List.append_nil, Nat.sub_self, Nat.zero_add])
local macro_rules | `(tactic| walk_at "go") => `(tactic| simp only [↓DL.dSeq, ↓DL.dNext, ↓DL.dAsg, ↓DL.dRet, ↓DL.dRetN, ↓DL.dIfS, ↓DL.dDrop, ↓DL.dBin, ↓DL.dCons, ↓DL.dNil, ↓DL.dTup, ↓DL.dC, ↓DL.dNeg, ↓DL.dAnd, ↓DL.dOr, ↓DL.dNot, ↓DL.dIf, ↓DL.dTst, ↓DL.asB, ↓DL.dChain, ↓DL.dAndT, ↓DL.dOrT, ↓DL.dNotT, ↓DL.dCall, ↓DL.dFn0, ↓DL.dFnK, ↓DL.dIs, ↓DL.dSl, ↓DL.dNoP, ↓DL.dPart, ↓DL.dRev, ↓DL.dLst, ↓DL.dLstV, ↓DL.cListV, ↓DL.dDict, ↓DL.dPar, ↓DL.dPar3, ↓DL.tup2, ↓DL.tup3, ↓DL.tup4, ↓DL.tup5, ↓DL.tup22, ↓DL.tup12, ↓DL.hName, ↓DL.hSub, ↓DL.rI2, ↓DL.rSubD, ↓DL.rMulD, ↓DL.rMulX, ↓DL.rDivF, ↓DL.rDivD, ↓DL.rModD, ↓DL.rPowD, ↓DL.rLtD, ↓DL.rLeD, ↓DL.rGtD, ↓DL.rGeD, ↓DL.rAddD, ↓DL.ixt_0, ↓DL.ixt_1, ↓DL.ixt_2, ↓DL.ixt_3, ↓DL.ixt_4, ↓DL.ixl_0, ↓DL.ixl_1, ↓DL.ixl_2, ↓DL.ixl_3, ↓DL.ixl_4, ↓DL.rEqV, ↓DL.rNeV, ↓DL.rSlD, ↓DL.cLen, ↓DL.cAbs, ↓DL.cInt, ↓DL.cStrI, ↓DL.cDivmod, ↓DL.cMin, ↓DL.cMax, ↓DL.cGcd, ↓DL.cLcm, ↓DL.cAll, ↓DL.cRepr, ↓DL.cList, ↓DL.cTuple, ↓DL.rC1, ↓DL.rC2, ↓DL.dNever, ↓DL.dIter, ↓DL.dRng1, ↓DL.dRng2, ↓DL.dYes,
  ↓DL.frz_d, ↓DL.var_zero, ↓DL.var_succ, ↓DL.var_set, ↓DL.var_ne, DL.own_some, DL.no_own2, DL.eqv_int, DL.sh_int, DL.sh_bool, DL.kit_int, DL.kit_bool, DL.kit_tuple, DL.kit_str, DL.is_int, DL.is_bool, DL.is_tuple, DL.is_str, DL.pures_nil, DL.pures_cons, Option.map_some, List.length_cons, List.length_nil, List.length_set, List.map_cons, List.map_nil, DL.pick, List.filterMap_cons, List.filterMap_nil,
  true_and, and_true, ite_true, ite_false, if_true, if_false, reduceIte, reduceCtorEq, ne_eq, not_false_eq_true, Nat.reduceAdd, Nat.reduceLT, Nat.reduceEqDiff, decide_eq_true_eq, Bool.not_true, Bool.not_false, Bool.false_eq_true, eq_self])
local macro_rules | `(tactic| walk_at "gk") => `(tactic| simp only [↓LB.sp_divisor, ↓LB.sp_part, ↓LB.sp_place, ↓LB.sp_is_whole, ↓LB.sp_l_is_whole, ↓LB.sp_is_row, ↓LB.sp_is_lot, ↓LB.sp_is_fraction, ↓LB.sp_l_is_fraction, ↓LB.sp_is_place, ↓LB.sp_is_point, ↓LB.sp_is_told, ↓LB.sp_told, ↓LB.sp_own, ↓LB.sp_side, ↓LB.sp_l_is_less, ↓LB.sp_l_lies_on, ↓LB.sp_l_sign, ↓LB.sp_sign, ↓LB.sp_scaled, ↓LB.sp_crossed, ↓LB.sp_along, ↓LB.sp_is_less, ↓DL.dSeq, ↓DL.dNext, ↓DL.dAsg, ↓DL.dRet, ↓DL.dRetN, ↓DL.dIfS, ↓DL.dDrop, ↓DL.dBin, ↓DL.dCons, ↓DL.dNil, ↓DL.dTup, ↓DL.dC, ↓DL.dNeg, ↓DL.dAnd, ↓DL.dOr, ↓DL.dNot, ↓DL.dIf, ↓DL.dTst, ↓DL.asB, ↓DL.dChain, ↓DL.dAndT, ↓DL.dOrT, ↓DL.dNotT, ↓DL.dCall, ↓DL.dFn0, ↓DL.dFnK, ↓DL.dIs, ↓DL.dSl, ↓DL.dNoP, ↓DL.dPart, ↓DL.dRev, ↓DL.dLst, ↓DL.dLstV, ↓DL.cListV, ↓DL.dDict, ↓DL.dPar, ↓DL.dPar3, ↓DL.tup2, ↓DL.tup3, ↓DL.tup4, ↓DL.tup5, ↓DL.tup22, ↓DL.tup12, ↓DL.hName, ↓DL.hSub, ↓DL.rI2, ↓DL.rSubD, ↓DL.rMulD, ↓DL.rMulX, ↓DL.rDivF, ↓DL.rDivD, ↓DL.rModD, ↓DL.rPowD, ↓DL.rLtD, ↓DL.rLeD, ↓DL.rGtD, ↓DL.rGeD, ↓DL.rAddD, ↓DL.ixt_0, ↓DL.ixt_1, ↓DL.ixt_2, ↓DL.ixt_3, ↓DL.ixt_4, ↓DL.ixl_0, ↓DL.ixl_1, ↓DL.ixl_2, ↓DL.ixl_3, ↓DL.ixl_4, ↓DL.rEqV, ↓DL.rNeV, ↓DL.rSlD, ↓DL.cLen, ↓DL.cAbs, ↓DL.cInt, ↓DL.cStrI, ↓DL.cDivmod, ↓DL.cMin, ↓DL.cMax, ↓DL.cGcd, ↓DL.cLcm, ↓DL.cAll, ↓DL.cRepr, ↓DL.cList, ↓DL.cTuple, ↓DL.rC1, ↓DL.rC2, ↓DL.dNever, ↓DL.dIter, ↓DL.dRng1, ↓DL.dRng2, ↓DL.dYes,
  ↓DL.frz_d, ↓DL.var_zero, ↓DL.var_succ, ↓DL.var_set, ↓DL.var_ne, DL.own_some, DL.no_own2, DL.eqv_int, DL.sh_int, DL.sh_bool, DL.kit_int, DL.kit_bool, DL.kit_tuple, DL.kit_str, DL.is_int, DL.is_bool, DL.is_tuple, DL.is_str, DL.pures_nil, DL.pures_cons, Option.map_some, List.length_cons, List.length_nil, List.length_set, List.map_cons, List.map_nil, DL.pick, List.filterMap_cons, List.filterMap_nil,
  true_and, and_true, ite_true, ite_false, if_true, if_false, reduceIte, reduceCtorEq, ne_eq, not_false_eq_true, Nat.reduceAdd, Nat.reduceLT, Nat.reduceEqDiff, decide_eq_true_eq, Bool.not_true, Bool.not_false, Bool.false_eq_true, eq_self])
namespace LB
open PySem PySem.Spec PyProof.Rows L2 DL
theorem draw_ {p : Addr} {m : Int} {st : Sto} {Q : Kd} {n : Nat} {ys : List D} (hst : st p = some ys) (hy : SprL ys n) (hn : n + 1 < 2 ^ 40) (h0 : 0 < m) (h1 : m < 2 ^ 40)
    (k : ∀ (i : Int) (zs : List D), 0 ≤ i → i < m → SprL zs (n + 1) → Q (I i) (put st p zs)) : sp_draw [.own p, I m] st Q :=
  ⟨h0, h1, n, ys, hst, hy, hn, fun d xs' ⟨i, e, i0, i1⟩ hx => by
    rw [e]
    exact k i xs' i0 i1 hx⟩
theorem one_tup {p : Addr} {xs : List PyData} {st : Sto} {Q : Kd} {n : Nat} {ys : List D} (hst : st p = some ys) (hy : SprL ys n) (hn : n + 1 < 2 ^ 40) (h0 : 0 < xs.length) (h1 : xs.length < 1000)
    (k : ∀ (x : PyData) (zs : List D), x ∈ xs → SprL zs (n + 1) → Q (.d x) (put st p zs)) : sp_one_of [.own p, .d (.tuple xs)] st Q :=
  ⟨h0, h1, n, ys, hst, hy, hn, fun d xs' ⟨x, e, hx⟩ hz => by
    rw [e]
    exact k x xs' hx hz⟩
theorem one_lst {p : Addr} {xs : List PyData} {st : Sto} {Q : Kd} {n : Nat} {ys : List D} (hst : st p = some ys) (hy : SprL ys n) (hn : n + 1 < 2 ^ 40) (h0 : 0 < xs.length) (h1 : xs.length < 1000)
    (k : ∀ (x : PyData) (zs : List D), x ∈ xs → SprL zs (n + 1) → Q (.d x) (put st p zs)) : sp_one_of [.own p, .d (.list xs)] st Q :=
  ⟨h0, h1, n, ys, hst, hy, hn, fun d xs' ⟨x, e, hx⟩ hz => by
    rw [e]
    exact k x xs' hx hz⟩
/-- .. done: what came is told -/
theorem spS_done {c m : Nat} {post : D → Prop} {p : Addr} {st : Sto} {Q : Kd} {n : Nat} {d : D} {zs : List D} (k : ∀ d xs', post d → SprL xs' (n + c) → Q d (put st p xs')) (h : post d) (hz : SprL zs m) (hm : m ≤ n + c) : Q d (put st p zs) := k d zs h (hz.mono hm)
theorem mulW' {i j : Int} {a b : Nat} (ha : B a i) (hb : B b j) (h0 : 0 < a := by decide) (h1 : 0 < b := by decide) (h : a + b ≤ 1000000 := by decide) : CMulW i j := mulW ha hb h0 h1 h
theorem B_mul' {a b : Nat} {i j : Int} (h : B a i) (g : B b j) : B (a + b) (i * j) := B_mul h g (Nat.le_refl _)
theorem B_lt {n : Nat} {i : Int} (k : Nat) (h0 : -(k : Int) < i) (h1 : i < k) (h : k ≤ 2 ^ n) : B n i := B_of k (by omega) h
theorem r_frame : ∀ ds st Q, sp_frame ds st Q → b_frame { nx := fun _ s' => Q (.d .none) s', rt := Q } (startD N_frame ds) st := by
  intro ds st Q h
  unfold sp_frame at h
  split at h
  · rename_i p
    obtain ⟨n, ys, hst, hy, hn, k⟩ := h
    walk_at "st"
    unfold b_frame b_frame_1 b_frame_2 b_frame_3
    walk_at "gk"
    refine ⟨big_ok (by decide), ?_⟩
    refine one_tup hst hy (by omega) (by decide) (by decide) fun v zs hv hy => Or.inl ?_
    have hw : ∃ w : Int, v = .int w ∧ 3 ≤ w ∧ w ≤ 5 := by
      simp only [List.mem_cons, List.not_mem_nil, or_false] at hv
      rcases hv with rfl | rfl | rfl <;> exact ⟨_, rfl, by decide, by decide⟩
    obtain ⟨w, rfl, w0, w1⟩ := hw
    iterate 8 refine ⟨big_ok (by decide), ?_⟩
    refine ⟨big_ok (by decide), ?_⟩
    refine one_tup put_same hy (by omega) (by decide) (by decide) fun v zs hv hy => Or.inl ?_
    have hf : ∃ x y s u : Int, v = .tuple [.int x, .int y, .int s, .int u] ∧ B 20 x ∧ B 20 y ∧ 0 < s ∧ B 20 s ∧ 0 < u ∧ B 3 u := by
      simp only [List.mem_cons, List.not_mem_nil, or_false] at hv
      rcases hv with rfl | rfl | rfl | rfl | rfl | rfl | rfl | rfl <;> exact ⟨_, _, _, _, rfl, by unfold B; decide, by unfold B; decide, by decide, by unfold B; decide, by decide, by unfold B; decide⟩
    obtain ⟨x, y, s, u, rfl, bx, by_, s0, bs, u0, bu⟩ := hf
    rw [put_put]
    walk_at "gk"
    refine ⟨big_ok (by decide), ?_⟩
    exact spS_done k ⟨x, y, s, u, w, rfl, ⟨bx, by_, s0, bs, u0, bu, w0, w1⟩⟩ hy (by omega)
  · exact h.elim
theorem r_grid : ∀ ds st Q, sp_grid ds st Q → b_grid { nx := fun _ s' => Q (.d .none) s', rt := Q } (startD N_grid ds) st := by
  intro ds st Q h
  unfold sp_grid at h
  split at h
  · rename_i x y s u w i j n
    obtain ⟨⟨bx, by_, s0, bs, u0, bu, w0, w1⟩, n0, n1, bi, bj, q⟩ := h
    walk_at "st"
    unfold b_grid b_grid_1 b_grid_2
    walk_at "gk"
    have bn : B 7 n := B_lt 100 (by omega) (by omega) (by decide)
    have e1 : ∀ {a b : Int}, B 20 a → B 20 b → B 8000 (a * n + s * b) := fun h g => B_add (B_mul' h bn) (B_mul' bs g) (by decide) (by decide)
    have e2 : B 8000 (u * n) := B_mono (B_mul' bu bn) (by decide)
    exact ⟨mulW' bx bn, mulW' bs bi, mulW' bu bn, Int.mul_pos u0 n0, e1 bx bi, e2, mulW' by_ bn, mulW' bs bj, mulW' bu bn, Int.mul_pos u0 n0, e1 by_ bj, e2, big_ok (by decide), q⟩
  · exact h.elim
theorem part_ok {t b : Int} (hb : 0 < b) : 0 < b / gc t b ∧ gc (t / gc t b) (b / gc t b) = 1 := ⟨div_pos hb (gc_pos hb) (gc_dr _ _), gc_low hb⟩
theorem gridP_G {x y s u w i j n : Int} (F : FrOk x y s u w) (n0 : 0 < n) (n1 : n < 8) (bi : B 6 i) (bj : B 6 j) : (gridP x y s u i j n).G := by
  obtain ⟨bx, by_, s0, bs, u0, bu, w0, w1⟩ := F
  have bn : B 3 n := B_lt 8 (by omega) (by omega) (by decide)
  have e1 : ∀ {a b : Int}, B 20 a → B 6 b → B 45 (a * n + s * b) := fun h g => B_add (B_mul' h bn) (B_mul' bs g) (by decide) (by decide)
  have e2 : B 20 (u * n) := B_mono (B_mul' bu bn) (by decide)
  have p := Int.mul_pos u0 n0
  have h1 := part_ok (t := x * n + s * i) p
  have h2 := part_ok (t := y * n + s * j) p
  exact ⟨h1.1, h2.1, h1.2, h2.2, B_div (e1 bx bi), B_div e2, B_div (e1 by_ bj), B_div e2⟩
theorem r_dot : ∀ ds st Q, sp_dot ds st Q → b_dot { nx := fun _ s' => Q (.d .none) s', rt := Q } (startD N_dot ds) st := by
  intro ds st Q h
  unfold sp_dot at h
  split at h
  · rename_i p x y s u w
    obtain ⟨F, n, ys, hst, hy, hn, k⟩ := h
    walk_at "st"
    unfold b_dot b_dot_1 b_dot_2 b_dot_3
    walk_at "gk"
    refine ⟨big_ok (by decide), ?_⟩
    refine one_tup hst hy (by omega) (by decide) (by decide) fun v zs hv hy => Or.inl ?_
    have hm : ∃ m : Int, v = .int m ∧ 1 ≤ m ∧ m ≤ 3 := by
      simp only [List.mem_cons, List.not_mem_nil, or_false] at hv
      rcases hv with rfl | rfl | rfl | rfl | rfl <;> exact ⟨_, rfl, by decide, by decide⟩
    obtain ⟨m, rfl, m0, m1⟩ := hm
    have bm : B 3 m := B_lt 8 (by omega) (by omega) (by decide)
    have bw : B 3 w := B_lt 8 (by have := F.w0; omega) (by have := F.w1; omega) (by decide)
    have hw := F.w0
    have hw1 := F.w1
    have lim : 0 ≤ m * w ∧ m * w ≤ 15 := by
      have h1 : m * w ≤ 3 * 5 := Int.mul_le_mul m1 hw1 (by omega) (by decide)
      exact ⟨Int.mul_nonneg (by omega) (by omega), by omega⟩
    walk_at "gk"
    generalize m * w = c at *
    refine ⟨mulW' bm bw, draw_ put_same hy (by omega) (by omega) (by omega) fun i zs i0 i1 hy => ?_⟩
    rw [put_put]
    refine ⟨mulW' bm bw, draw_ put_same hy (by omega) (by omega) (by omega) fun j zs j0 j1 hy => ?_⟩
    rw [put_put]
    refine ⟨F, by omega, by omega, B_lt 16 (by omega) (by omega) (by decide), B_lt 16 (by omega) (by omega) (by decide), Or.inl ?_⟩
    exact spS_done k ⟨_, rfl, gridP_G F (by omega) (by omega) (B_lt 16 (by omega) (by omega) (by decide)) (B_lt 16 (by omega) (by omega) (by decide))⟩ hy (by omega)
  · exact h.elim
/-- a step of an index, led by the frame -/
theorem gridP_inj {x y s u w i j i' j' n : Int} (F : FrOk x y s u w) (n0 : 0 < n) (h : gridP x y s u i j n = gridP x y s u i' j' n) : i = i' ∧ j = j' := by
  have p := Int.mul_pos F.u0 n0
  have key : ∀ {t t' : Int}, t / gc t (u * n) = t' / gc t' (u * n) → (u * n) / gc t (u * n) = (u * n) / gc t' (u * n) → t = t' := by
    intro t t' h1 h2
    have e1 := cancel (gc_dl t (u * n))
    have e2 := cancel (gc_dr t (u * n))
    have e3 := cancel (gc_dl t' (u * n))
    have e4 := cancel (gc_dr t' (u * n))
    have g1 := gc_pos (a := t) p
    have g2 := gc_pos (a := t') p
    have d := div_pos p g1 (gc_dr t (u * n))
    rw [← h2] at e4
    have : gc t (u * n) = gc t' (u * n) := Int.eq_of_mul_eq_mul_right (by omega) (e2.trans e4.symm)
    rw [← e1, ← e3, h1, this]
  injection h with h1 h2 h3 h4
  have a := key h1 h2
  have b := key h3 h4
  have s0 := F.s0
  exact ⟨Int.eq_of_mul_eq_mul_left (a := s) (by omega) (by omega), Int.eq_of_mul_eq_mul_left (a := s) (by omega) (by omega)⟩
end LB
namespace LB
open PySem PySem.Spec PyProof.Rows L2 DL
theorem atI_last {α : Type} {xs : List α} {x : α} (h : xs[xs.length - 1]? = some x) : atI xs (-1) = some x := by
  have hl : xs.length - 1 < xs.length := (List.getElem?_eq_some_iff.mp h).1
  unfold atI ixN
  rw [if_neg (by decide), if_pos (by omega)]
  show xs[((-1 : Int) + (xs.length : Nat)).toNat]? = some x
  rw [show ((-1 : Int) + (xs.length : Nat)).toNat = xs.length - 1 by omega]
  exact h
theorem atI_zero {α : Type} {xs : List α} {x : α} (h : xs[0]? = some x) : atI xs 0 = some x := atI_nat (j := 0) h
/-- a comprehension with a test -/
theorem lcV_filt {ti : TId} {i : Nat} {tt : TTd} {te : TEd} {e : Ed} {st : Sto} {Q : Kd} (xs : List D) (g : D → Bool) (f : D → PyData) (hti : ∀ R : ItD → Sto → Prop, R ⟨xs, none⟩ st → ti e st R) (hl : xs.length < sizeLine)
    (ht : ∀ d ∈ xs, ∀ K : Bool → Sto → Prop, K (g d) st → tt (e.set i (some d)) st K)
    (hf : ∀ d ∈ xs, ∀ K : Kd, K (.d (f d)) st → te (e.set i (some d)) st K) (q : Q (.d (.list ((xs.filter g).map f))) st) : dLcV ti i tt te e st Q := by
  refine hti _ ⟨fun j acc st' => st' = st ∧ j ≤ xs.length ∧ acc = ((xs.take j).filter g).map fun d => D.d (f d), ⟨rfl, Nat.zero_le _, rfl⟩, ?_⟩
  rintro j acc st' ⟨rfl, hj, rfl⟩
  refine ⟨(fun a ds z => nomatch z), fun hd => ?_, fun d hd => ?_⟩
  · have e1 : xs.take j = xs := List.take_of_length_le hd
    rw [e1]
    refine ⟨(xs.filter g).map f, ?_, q⟩
    rw [show ((xs.filter g).map fun d => D.d (f d)) = ((xs.filter g).map f).map D.d by rw [List.map_map]; rfl]
    exact pures_map _
  · have hd' : xs[j]? = some d := hd
    have hlt : j < xs.length := (List.getElem?_eq_some_iff.mp hd').1
    have hm := List.mem_of_getElem? hd'
    refine ht d hm _ ?_
    cases hg : g d with
    | false =>
      rw [if_neg (by decide)]
      refine ⟨rfl, hlt, ?_⟩
      rw [List.take_add_one, hd', List.filter_append, List.map_append]
      simp [hg]
    | true =>
      rw [if_pos rfl]
      refine hf d hm _ ⟨?_, rfl, hlt, ?_⟩
      · rw [List.length_map]
        have := List.length_filter_le g (xs.take j)
        rw [List.length_take] at this
        omega
      · rw [List.take_add_one, hd', List.filter_append, List.map_append]
        simp [hg]
def ChainI : List Int → Prop
  | a :: b :: r => a ≠ b ∧ ChainI (b :: r)
  | _ => True
theorem chain_snoc : ∀ {cs : List Int} {z : Int}, ChainI cs → (∀ l, cs[cs.length - 1]? = some l → l ≠ z) → ChainI (cs ++ [z])
  | [], _, _, _ => trivial
  | [a], z, _, h => ⟨h a rfl, trivial⟩
  | a :: b :: r, z, hc, h => ⟨hc.1, chain_snoc (cs := b :: r) hc.2 fun l hl => h l (by simpa using hl)⟩
theorem chain_map {f : Int → Pt} {P : Int → Prop} (inj : ∀ a b, P a → P b → f a = f b → a = b) : ∀ {cs : List Int}, (∀ c ∈ cs, P c) → ChainI cs → Chain (cs.map f)
  | [], _, _ => trivial
  | [_], _, _ => trivial
  | a :: b :: r, hp, hc => ⟨fun e => hc.1 (inj a b (hp a (by simp)) (hp b (by simp)) e), chain_map inj (cs := b :: r) (fun c h => hp c (List.mem_cons_of_mem _ h)) hc.2⟩
abbrev Ii (i : Int) : PyData := .int i
/-- one of the cells that are not shut -/
theorem free_cell {p : Addr} {w : Int} (hw : 3 ≤ w) (hw2 : w ≤ 5) {shut : List Int} (hs : shut.length ≤ 2) {e : Ed} {st : Sto} {Q : Kd} {n : Nat} {ys : List D} (hst : st p = some ys) (hy : SprL ys n) (hn : n + 1 < 2 ^ 40) (e0 : e[0]? = some (some (.own p))) (e4 : e[4]? = some (some (I w))) (e7 : e[7]? = some (some (.d (.list (shut.map Ii))))) (e8 : e.length = 9)
    (k : ∀ (c : Int) (zs : List D), 0 ≤ c → c < w * w → c ∉ shut → SprL zs (n + 1) → Q (I c) (put st p zs)) :
    dFn0 sp_one_of (dCons (dVar 0) (dCons (dLcV (dRng1 (dCons (dBin rMulD (dVar 4) (dVar 4)) dNil)) 8 (dTst (dBin (rInV true) (dVar 8) (dVar 7))) (dVar 8)) dNil)) e st Q := by
  have bw : B 3 w := B_lt 8 (by omega) (by omega) (by decide)
  have w2 : 9 ≤ w * w ∧ w * w ≤ 25 := by
    have h1 : (3 : Int) * 3 ≤ w * w := Int.mul_le_mul hw hw (by decide) (by omega)
    have h2 : w * w ≤ 5 * 5 := Int.mul_le_mul hw2 hw2 (by omega) (by decide)
    omega
  refine ⟨_, e0, ?_⟩
  refine lcV_filt ((List.range (w * w).toNat).map fun (i : Nat) => .d (.int (0 + i))) (fun d => match d with | .d (.int v) => decide (v ∉ shut) | _ => false) (fun d => match d with | .d x => x | _ => .none) (fun R hR => ?_) ?_ ?_ ?_ ?_
  · refine ⟨_, e4, _, e4, mulW' bw bw, ?_⟩
    exact ⟨by omega, by omega, hR⟩
  · rw [List.length_map, List.length_range]
    exact Nat.lt_of_le_of_lt (show (w * w).toNat ≤ 25 by omega) (by decide)
  · intro d hd K hK
    obtain ⟨i, hi, rfl⟩ := List.mem_map.mp hd
    have e8' : (e.set 8 (some (D.d (.int (0 + (i : Int))))))[8]? = some (some (.d (.int (0 + (i : Int))))) := List.getElem?_set_self (by omega)
    have e7' : (e.set 8 (some (D.d (.int (0 + (i : Int))))))[7]? = some (some (.d (.list (shut.map Ii)))) := by
      rw [List.getElem?_set_ne (by decide)]
      exact e7
    refine ⟨_, e8', _, e7', shut.map Ii, rfl, .inl ⟨rfl, ?_⟩, ?_⟩
    · simp [Ii, flatP]
    · have : (true != (shut.map Ii).any fun z => PyData.eqv z (.int (0 + (i : Int)))) = decide ((0 + (i : Int)) ∉ shut) := by
        rw [Bool.eq_iff_iff]
        simp [Ii, PyData.eqv]
        constructor
        · intro h hm
          exact h _ hm rfl
        · rintro h x hm rfl
          exact h hm
      show K _ st
      rw [this]
      exact hK
  · intro d hd K hK
    obtain ⟨i, hi, rfl⟩ := List.mem_map.mp hd
    exact ⟨_, List.getElem?_set_self (by omega), hK⟩
  · have mem : ∀ c : Int, 0 ≤ c → c < w * w → c ∉ shut → PyData.int c ∈ ((((List.range (w * w).toNat).map fun (i : Nat) => D.d (.int (0 + i))).filter (fun d => match d with | .d (.int v) => decide (v ∉ shut) | _ => false)).map (fun d => match d with | .d x => x | _ => .none)) := by
      intro c c0 c1 cs
      refine List.mem_map.mpr ⟨.d (.int c), List.mem_filter.mpr ⟨List.mem_map.mpr ⟨c.toNat, List.mem_range.mpr (by omega), ?_⟩, by simpa using cs⟩, rfl⟩
      rw [show (0 : Int) + ((c.toNat : Nat) : Int) = c by omega]
    have ex : ∃ c : Int, 0 ≤ c ∧ c < 3 ∧ c ∉ shut := by
      match shut, hs with
      | [], _ => exact ⟨0, by decide, by decide, by simp⟩
      | [a], _ =>
        by_cases h : a = 0
        · exact ⟨1, by decide, by decide, by simp [h]⟩
        · exact ⟨0, by decide, by decide, by simp; omega⟩
      | [a, b], _ =>
        by_cases h0 : a ≠ 0 ∧ b ≠ 0
        · exact ⟨0, by decide, by decide, by simp; omega⟩
        · by_cases h1 : a ≠ 1 ∧ b ≠ 1
          · exact ⟨1, by decide, by decide, by simp; omega⟩
          · exact ⟨2, by decide, by decide, by simp; omega⟩
      | _ :: _ :: _ :: _, h => exact absurd h (by simp)
    obtain ⟨c, c0, c1, c2⟩ := ex
    refine one_lst hst hy hn (List.length_pos_of_mem (mem c c0 (by omega) c2)) ?_ fun x zs hx hz => ?_
    · rw [List.length_map]
      refine Nat.lt_of_le_of_lt (List.length_filter_le _ _) ?_
      rw [List.length_map, List.length_range]
      omega
    · obtain ⟨d, hd, rfl⟩ := List.mem_map.mp hx
      obtain ⟨h1, h2⟩ := List.mem_filter.mp hd
      obtain ⟨i, hi, rfl⟩ := List.mem_map.mp h1
      have hi := List.mem_range.mp hi
      exact k _ zs (by omega) (by omega) (by simpa using h2) hz
theorem lcV_pureO {ti : TId} {i : Nat} {te : TEd} {e : Ed} {st : Sto} {Q : Kd} (xs : List D) (dep : Option (Addr × List D)) (hat : ∀ a ds, dep = some (a, ds) → st a = some ds) (f : D → PyData) (hti : ∀ R : ItD → Sto → Prop, R ⟨xs, dep⟩ st → ti e st R) (hl : xs.length < sizeLine)
    (hf : ∀ d ∈ xs, ∀ K : Kd, K (.d (f d)) st → te (e.set i (some d)) st K) (q : Q (.d (.list (xs.map f))) st) : dLcV ti i dYes te e st Q := by
  refine hti _ ⟨fun j acc st' => st' = st ∧ j ≤ xs.length ∧ acc = (xs.take j).map fun d => D.d (f d), ⟨rfl, Nat.zero_le _, rfl⟩, ?_⟩
  rintro j acc st' ⟨rfl, hj, rfl⟩
  refine ⟨hat, fun hd => ?_, fun d hd => ?_⟩
  · have e1 : xs.take j = xs := List.take_of_length_le hd
    rw [e1]
    refine ⟨xs.map f, ?_, q⟩
    rw [show (xs.map fun d => D.d (f d)) = (xs.map f).map D.d by rw [List.map_map]; rfl]
    exact pures_map _
  · have hd' : xs[j]? = some d := hd
    have hlt : j < xs.length := (List.getElem?_eq_some_iff.mp hd').1
    refine (show dYes (e.set i (some d)) st' (fun b s2 => if b = true then te (e.set i (some d)) s2 _ else _) from ?_)
    refine hf d (List.mem_of_getElem? hd') _ ⟨?_, rfl, hlt, ?_⟩
    · rw [List.length_map, List.length_take]
      omega
    · rw [List.take_add_one, hd', List.map_append]
      rfl
theorem put_comm {st : Sto} {a b : Addr} {xs ys : List D} (h : a ≠ b) : put (put st a xs) b ys = put (put st b ys) a xs := by
  funext c
  by_cases h1 : c = a
  · subst h1
    rw [put_ne h, put_same, put_same]
  · by_cases h2 : c = b
    · subst h2
      rw [put_same, put_ne h1, put_same]
    · rw [put_ne h2, put_ne h1, put_ne h1, put_ne h2]
theorem sub_put {st : Sto} {p q : Addr} {zs xs : List D} (h : q ≠ p) (hq : st q = none) : Sub (put st p zs) (put (put st p zs) q xs) := fun a => by
  by_cases e : a = q
  · subst e
    exact .inr (by rw [put_ne h]; exact hq)
  · exact .inl (by rw [put_ne e])
theorem last_map {cs : List Int} {l : Int} (h : cs[cs.length - 1]? = some l) : (cs.map fun c => I c)[(cs.map fun c => I c).length - 1]? = some (I l) := by
  rw [List.length_map, List.getElem?_map, h]
  rfl
theorem last_snoc {α : Type} (xs : List α) (x : α) : (xs ++ [x])[(xs ++ [x]).length - 1]? = some x := by
  rw [List.length_append, List.length_singleton, Nat.add_sub_cancel, List.getElem?_append_right (Nat.le_refl _), Nat.sub_self]
  rfl
theorem last_ex {α : Type} {xs : List α} (h : 0 < xs.length) : ∃ x, xs[xs.length - 1]? = some x := ⟨_, List.getElem?_eq_getElem (by omega)⟩
theorem r_row : ∀ ds st Q, sp_row ds st Q → b_row { nx := fun _ s' => RQ Q (.d .none) s', rt := RQ Q } (startD N_row ds) st := by
  intro ds st Q h
  unfold sp_row at h
  split at h
  · rename_i p x y s u w m c
    obtain ⟨F, m1, m2, n, ys, hst, hy, hn, k⟩ := h
    have w0 := F.w0
    have w1 := F.w1
    have bw : B 3 w := B_lt 8 (by omega) (by omega) (by decide)
    have ww : 9 ≤ w * w ∧ w * w ≤ 25 := by
      have h1 : (3 : Int) * 3 ≤ w * w := Int.mul_le_mul w0 w0 (by decide) (by omega)
      have h2 : w * w ≤ 5 * 5 := Int.mul_le_mul w1 w1 (by omega) (by decide)
      omega
    walk_at "st"
    unfold b_row b_row_1 b_row_2
    walk_at "gk"
    refine ⟨mulW' bw bw, draw_ hst hy (by omega) (by omega) (by omega) fun c0 zs i0 i1 hy => ?_⟩
    refine ⟨big_ok (by decide), .inr fun q hq => .inl ?_⟩
    have qp : q ≠ p := fun z => by
      rw [z, put_same] at hq
      cases hq
    have hq0 : st q = none := by
      rw [put_ne qp] at hq
      exact hq
    unfold b_row_3
    refine ⟨_, rfl, ⟨by decide, by decide, by omega, by omega⟩, ?_⟩
    refine ⟨fun i e' s' => ∃ (cs : List Int) (zs : List D) (t6 t7 : Option D), e' = [some (.own p), some (.d (.tuple [.int x, .int y, .int s, .int u, .int w])), some (I m), some (Bo c), some (I w), some (.own q), t6, t7, none] ∧ s' = put (put st p zs) q (cs.map fun c => I c) ∧ SprL zs (n + 1 + i) ∧ cs.length = i + 1 ∧ i ≤ (m - 1).toNat ∧ (∀ c ∈ cs, 0 ≤ c ∧ c < w * w) ∧ ChainI cs ∧ (c = true → i + 1 = m.toNat → 2 ≤ m → cs[cs.length - 1]? ≠ cs[0]?),
      ⟨[c0], zs, none, none, rfl, rfl, hy, rfl, Nat.zero_le _, by simpa using ⟨i0, i1⟩, trivial, fun _ h1 h2 => by omega⟩, ?_⟩
    rintro i e' s' ⟨cs, zs, t6, t7, rfl, rfl, hz, hlen, hi, hb, hch, hcl⟩
    have lenX : ((List.range (m - 1).toNat).map fun (mm : Nat) => D.d (.int (1 + mm))).length = (m - 1).toNat := by rw [List.length_map, List.length_range]
    refine ⟨(fun a ds z => nomatch z), fun hd => ?_, fun d hd => ?_⟩
    · -- behind the loop
      have hd : (m - 1).toNat ≤ i := by
        rw [← lenX]
        exact hd
      unfold b_row_4
      have fin : ∀ c : Int, 0 ≤ c → c < w * w → 0 ≤ c / w ∧ c / w < 64 ∧ 0 ≤ c % w ∧ c % w < 64 := by
        intro c h0 h1
        have := Int.emod_nonneg c (show w ≠ 0 by omega)
        have := Int.emod_lt_of_pos c (show 0 < w by omega)
        have h3 : 0 ≤ c / w := Int.ediv_nonneg h0 (by omega)
        have h4 : c / w < w := Int.ediv_lt_of_lt_mul (by omega) h1
        omega
      have s64 : ∀ i : Int, 0 ≤ i → i < 64 → B 6 i := fun i h0 h1 => B_lt 64 (by omega) (by omega) (by decide)
      show dLcV (dIter (dVar 5)) 8 dYes _ _ _ _
      refine lcV_pureO (cs.map fun c => I c) (some (q, cs.map fun c => I c)) (fun a ds z => ?_) (fun d => match d with | .d (.int v) => (gridP x y s u (v / w) (v % w) 1).py | _ => .none) (fun R hR => ⟨_, rfl, _, put_same, hR⟩) ?_ ?_ ?_
      · cases z
        exact put_same
      · rw [List.length_map, hlen]
        exact Nat.lt_of_le_of_lt (show i + 1 ≤ 20 by omega) (by decide)
      · intro d hd K hK
        obtain ⟨v, hv, rfl⟩ := List.mem_map.mp hd
        obtain ⟨f0, f1, f2, f3⟩ := fin v (hb v hv).1 (hb v hv).2
        refine ⟨_, rfl, _, rfl, _, rfl, divW (by omega) bw (by decide) (by decide), _, rfl, trivial, _, rfl, (show (0 : Int) < w by omega), ?_⟩
        exact ⟨F, by decide, by decide, B_mono (s64 _ f0 f1) (by decide), B_mono (s64 _ f2 f3) (by decide), hK⟩
      · refine ⟨((cs.map fun c => I c).map (fun d => match d with | .d (.int v) => (gridP x y s u (v / w) (v % w) 1).py | _ => .none)), rfl, .inl ⟨put st p zs, sub_put qp hq0, ?_⟩⟩
        refine k _ zs ⟨cs.map fun c => gridP x y s u (c / w) (c % w) 1, ?_, ?_, ?_, ?_, ?_⟩ (hz.mono (by omega))
        · rw [List.map_map, List.map_map]
          rfl
        · rw [List.length_map, hlen]
          omega
        · intro g hg
          obtain ⟨v, hv, rfl⟩ := List.mem_map.mp hg
          obtain ⟨f0, f1, f2, f3⟩ := fin v (hb v hv).1 (hb v hv).2
          exact gridP_G F (by decide) (by decide) (s64 _ f0 f1) (s64 _ f2 f3)
        · refine chain_map (P := fun c => 0 ≤ c ∧ c < w * w) (fun a b ha hb' e => ?_) hb hch
          obtain ⟨h1, h2⟩ := gridP_inj F (by decide) e
          have := Int.mul_ediv_add_emod a w
          have := Int.mul_ediv_add_emod b w
          rw [h1, h2] at *
          omega
        · intro hc h2
          have := hcl hc (by omega) h2
          rw [List.length_map, List.getElem?_map, List.getElem?_map]
          intro e
          apply this
          obtain ⟨l, hl⟩ := last_ex (xs := cs) (by omega)
          have hz0 : cs[0]? = some cs[0] := List.getElem?_eq_getElem (by omega)
          rw [hl, hz0] at e ⊢
          obtain ⟨h1, h2⟩ := gridP_inj F (by decide) (Option.some.inj e)
          have := Int.mul_ediv_add_emod l w
          have := Int.mul_ediv_add_emod cs[0] w
          rw [h1, h2] at *
          congr 1
          omega
    · -- a turn
      have hd' : ((List.range (m - 1).toNat).map fun (mm : Nat) => D.d (.int (1 + mm)))[i]? = some d := hd
      rw [List.getElem?_map] at hd'
      have hir : i < (m - 1).toNat := by
        have := (List.getElem?_eq_some_iff.mp hd).1
        rw [← lenX]
        exact this
      rw [List.getElem?_range hir] at hd'
      cases hd'
      obtain ⟨l, hl⟩ := last_ex (xs := cs) (by omega)
      have hz0 : cs[0]? = some cs[0] := List.getElem?_eq_getElem (by omega)
      have l1 := atI_last (last_map hl)
      have l0 : atI (cs.map fun c => I c) 0 = some (I cs[0]) := atI_zero (by rw [List.getElem?_map, hz0]; rfl)
      -- the append, behind the shut ones
      have app : ∀ shut : List Int, shut.length ≤ 2 → l ∈ shut → (c = true → (1 : Int) + i = m - 1 → cs[0] ∈ shut) →
          dDrop (dApp (dVar 5) (dFn0 sp_one_of (dCons (dVar 0) (dCons (dLcV (dRng1 (dCons (dBin rMulD (dVar 4) (dVar 4)) dNil)) 8 (dTst (dBin (rInV true) (dVar 8) (dVar 7))) (dVar 8)) dNil)))) { nx := fun e' s' => ∃ (cs : List Int) (zs : List D) (t6 t7 : Option D), e' = [some (.own p), some (.d (.tuple [.int x, .int y, .int s, .int u, .int w])), some (I m), some (Bo c), some (I w), some (.own q), t6, t7, none] ∧ s' = put (put st p zs) q (cs.map fun c => I c) ∧ SprL zs (n + 1 + (i + 1)) ∧ cs.length = (i + 1) + 1 ∧ (i + 1) ≤ (m - 1).toNat ∧ (∀ c ∈ cs, 0 ≤ c ∧ c < w * w) ∧ ChainI cs ∧ (c = true → (i + 1) + 1 = m.toNat → 2 ≤ m → cs[cs.length - 1]? ≠ cs[0]?), rt := RQ Q }
          [some (.own p), some (.d (.tuple [.int x, .int y, .int s, .int u, .int w])), some (I m), some (Bo c), some (I w), some (.own q), some (I (1 + i)), some (.d (.list (shut.map Ii))), none] (put (put st p zs) q (cs.map fun c => I c)) := by
        intro shut hs1 hs2 hs3
        refine ⟨_, rfl, by rw [put_same]; rfl, ?_⟩
        refine free_cell w0 w1 hs1 (by rw [put_ne (Ne.symm qp)]; exact put_same) hz (by omega) rfl rfl rfl rfl fun z zs2 z0 z1 zs3 hz2 => ?_
        have ec : put (put (put st p zs) q (cs.map fun c => I c)) p zs2 = put (put st p zs2) q (cs.map fun c => I c) := by
          rw [put_comm qp, put_put]
        rw [ec]
        refine ⟨cs.map fun c => I c, put_same, ?_, ?_⟩
        · rw [List.length_map, hlen]
          exact Nat.lt_of_le_of_lt (show i + 1 ≤ 20 by omega) (by decide)
        · refine ⟨cs ++ [z], zs2, _, _, rfl, ?_, hz2, ?_, by omega, ?_, ?_, ?_⟩
          · rw [put_put, List.map_append]
            rfl
          · rw [List.length_append, hlen]
            rfl
          · intro v hv
            rcases List.mem_append.mp hv with hv | hv
            · exact hb v hv
            · rw [List.mem_singleton.mp hv]
              exact ⟨z0, z1⟩
          · refine chain_snoc hch fun l' hl' => ?_
            rw [hl] at hl'
            cases hl'
            exact fun e => zs3 (e ▸ hs2)
          · intro hc h1 h2 he
            rw [last_snoc, List.getElem?_append_left (by omega), hz0] at he
            have := hs3 hc (by omega)
            cases he
            exact zs3 this
      refine (show dSeq _ _ _ _ _ from ?_)
      show dSeq _ _ _ [some (.own p), some (.d (.tuple [.int x, .int y, .int s, .int u, .int w])), some (I m), some (Bo c), some (I w), some (.own q), some (I (1 + i)), t7, none] (put (put st p zs) q (cs.map fun c => I c))
      have key : ∀ R : Kd, ((c = true ∧ (1 : Int) + i = m - 1 → R (.d (.list [.int l, .int cs[0]])) (put (put st p zs) q (cs.map fun c => I c))) ∧ (¬ (c = true ∧ (1 : Int) + i = m - 1) → R (.d (.list [.int l])) (put (put st p zs) q (cs.map fun c => I c)))) →
          (dIf (dAndT (dTst (dVar 3)) (dTst (dBin rEqV (dVar 6) (dBin rSubD (dVar 2) (dC (.int 1)))))) (dLstV (dCons (dBin rIxD (dVar 5) (dNeg (dC (.int 1)))) (dCons (dBin rIxD (dVar 5) (dC (.int 0))) dNil))) (dLstV (dCons (dBin rIxD (dVar 5) (dNeg (dC (.int 1)))) dNil))) [some (.own p), some (.d (.tuple [.int x, .int y, .int s, .int u, .int w])), some (I m), some (Bo c), some (I w), some (.own q), some (I (1 + i)), t7, none] (put (put st p zs) q (cs.map fun c => I c)) R := by
        intro R ⟨h1, h2⟩
        refine ⟨_, rfl, ?_⟩
        have one : ¬ (c = true ∧ (1 : Int) + i = m - 1) → (dLstV (dCons (dBin rIxD (dVar 5) (dNeg (dC (.int 1)))) dNil)) [some (.own p), some (.d (.tuple [.int x, .int y, .int s, .int u, .int w])), some (I m), some (Bo c), some (I w), some (.own q), some (I (1 + i)), t7, none] (put (put st p zs) q (cs.map fun c => I c)) R := fun h => ⟨_, rfl, _, _, put_same, l1, big_ok (by show 1 ≤ 3000; decide), h2 h⟩
        cases c with
        | false =>
          exact one (by simp)
        | true =>
          refine ⟨_, rfl, _, rfl, trivial, ?_⟩
          show if decide ((1 : Int) + i = m - 1) = true then _ else _
          by_cases hm : (1 : Int) + i = m - 1
          · rw [if_pos (decide_eq_true hm)]
            exact ⟨_, rfl, _, _, put_same, l1, _, rfl, _, _, put_same, l0, big_ok (by show 2 ≤ 3000; decide), h1 ⟨rfl, hm⟩⟩
          · rw [if_neg (by simpa using hm)]
            exact one (fun z => hm z.2)
      refine key _ ⟨fun hc => .inl ?_, fun hc => .inl ?_⟩
      · exact app [l, cs[0]] (by simp) (by simp) (by simp)
      · exact app [l] (by simp) (by simp) (fun h1 h2 => absurd ⟨h1, h2⟩ hc)
  · exact h.elim
end LB
namespace LB
open PySem PySem.Spec PyProof.Rows L2 DL
/-! ### places in lowest terms, in order -/
theorem nat_gc (a b : Int) : (gc a b).natAbs = Nat.gcd a.natAbs b.natAbs := by
  unfold gc
  exact Int.natAbs_natCast _
theorem place_lo {n : Nat} {x y w : Int} (hw : 0 < w) (hx : B n x) (hy : B n y) (hz : B n w) : (placeT x y w).Lo n := by
  refine ⟨⟨div_pos hw (gc_pos hw) (gc_dr _ _), B_div hx, B_div hy, B_div hz⟩, ?_⟩
  obtain ⟨d1, d2, d3⟩ := gc_dvd3 x y w
  have g0 := gc_pos (a := gc x y) hw
  show gc (gc (x / gc (gc x y) w) (y / gc (gc x y) w)) (w / gc (gc x y) w) = 1
  have e : ∀ {a : Int}, gc (gc x y) w ∣ a → (a / gc (gc x y) w).natAbs = a.natAbs / (gc (gc x y) w).natAbs := fun h => Int.natAbs_ediv_of_dvd h
  have f : ∀ {a : Int}, gc (gc x y) w ∣ a → (gc (gc x y) w).natAbs ∣ a.natAbs := fun h => Int.natAbs_dvd_natAbs.mpr h
  have ng : 0 < (gc (gc x y) w).natAbs := by omega
  have key : Nat.gcd (Nat.gcd (x / gc (gc x y) w).natAbs (y / gc (gc x y) w).natAbs) (w / gc (gc x y) w).natAbs = 1 := by
    rw [e d1, e d2, e d3, Nat.gcd_div (f d1) (f d2), Nat.gcd_div (Nat.dvd_gcd (f d1) (f d2)) (f d3)]
    have : Nat.gcd (Nat.gcd x.natAbs y.natAbs) w.natAbs = (gc (gc x y) w).natAbs := by rw [nat_gc, nat_gc]
    rw [this]
    exact Nat.div_self ng
  show ((Nat.gcd (gc (x / gc (gc x y) w) (y / gc (gc x y) w)).natAbs (w / gc (gc x y) w).natAbs : Nat) : Int) = 1
  rw [nat_gc, key]
  rfl
theorem placeS_lo {n : Nat} {x y w : Int} (hw : w ≠ 0) (hx : B n x) (hy : B n y) (hz : B n w) : (placeS x y w).Lo n := by
  unfold placeS
  have bn : ∀ {i}, B n i → B n (-i) := fun h => by
    unfold B at *
    rw [Int.natAbs_neg]
    exact h
  split
  · rename_i h
    exact place_lo h hx hy hz
  · exact place_lo (by omega) (bn hx) (bn hy) (bn hz)
theorem own_lo {n : Nat} {p : Pt} (hb : 0 < p.b) (hd : 0 < p.d) (h1 : B n (p.a * p.d)) (h2 : B n (p.c * p.b)) (h3 : B n (p.b * p.d)) : (ownT p).Lo n := place_lo (Int.mul_pos hb hd) h1 h2 h3
theorem Tr.Lo.up {n m : Nat} {t : Tr} (h : t.Lo n) (hn : n ≤ m) : t.Lo m := ⟨⟨h.ok.hw, B_mono h.ok.bx hn, B_mono h.ok.by_ hn, B_mono h.ok.bw hn⟩, h.low⟩
theorem low3 {n : Nat} {t u : Tr} (ht : t.Lo n) (hu : u.Lo n) (h1 : t.x * u.w = u.x * t.w) (h2 : t.y * u.w = u.y * t.w) : t = u := by
  have dv : ∀ {n : Nat} {t u : Tr}, t.Lo n → t.x * u.w = u.x * t.w → t.y * u.w = u.y * t.w → t.w ∣ u.w := by
    intro n t u ht h1 h2
    have lw := ht.low
    have k : Nat.gcd (Nat.gcd t.x.natAbs t.y.natAbs) t.w.natAbs = 1 := by
      have : (gc (gc t.x t.y) t.w).natAbs = 1 := by rw [lw]; rfl
      rwa [nat_gc, nat_gc] at this
    have e1 : t.x.natAbs * u.w.natAbs = u.x.natAbs * t.w.natAbs := by rw [← Int.natAbs_mul, ← Int.natAbs_mul, h1]
    have e2 : t.y.natAbs * u.w.natAbs = u.y.natAbs * t.w.natAbs := by rw [← Int.natAbs_mul, ← Int.natAbs_mul, h2]
    have d : t.w.natAbs ∣ Nat.gcd (Nat.gcd (t.x.natAbs * u.w.natAbs) (t.y.natAbs * u.w.natAbs)) (t.w.natAbs * u.w.natAbs) :=
      Nat.dvd_gcd (Nat.dvd_gcd (by rw [e1]; exact Nat.dvd_mul_left _ _) (by rw [e2]; exact Nat.dvd_mul_left _ _)) (Nat.dvd_mul_right _ _)
    rw [Nat.gcd_mul_right, Nat.gcd_mul_right, k, Nat.one_mul] at d
    exact Int.natAbs_dvd_natAbs.mp d
  have a := dv ht h1 h2
  have b := dv hu h1.symm h2.symm
  have tw := ht.ok.hw
  have uw := hu.ok.hw
  have e : t.w = u.w := Int.dvd_antisymm (by omega) (by omega) a b
  obtain ⟨x, y, w⟩ := t
  obtain ⟨x', y', w'⟩ := u
  simp only [] at *
  subst e
  rw [Int.eq_of_mul_eq_mul_right (by omega) h1, Int.eq_of_mul_eq_mul_right (by omega) h2]
theorem less_iff {p q : Tr} : lessT p q = true ↔ p.x * q.w < q.x * p.w ∨ (p.x * q.w = q.x * p.w ∧ p.y * q.w < q.y * p.w) := by
  unfold lessT
  split
  · rename_i h
    rw [decide_eq_true_iff]
    omega
  · rename_i h
    rw [decide_eq_true_iff]
    omega
theorem scale_lt {a b k : Int} (hk : 0 < k) : a * k < b * k ↔ a < b := Int.mul_lt_mul_right hk
theorem scale_eq {a b k : Int} (hk : 0 < k) : a * k = b * k ↔ a = b := ⟨fun h => Int.eq_of_mul_eq_mul_right (by omega) h, fun h => by rw [h]⟩
theorem key_eq {b u v k l x x' : Int} (h1 : u * k = b) (h2 : v * l = b) : x * v * (k * l) = x * k * b ∧ x' * u * (k * l) = x' * l * b := by
  subst h1
  constructor
  · rw [← h2]
    grind
  · grind
/-- .. by whole numbers over one bottom -/
theorem less_key {b : Int} {p q : Tr} (hb : 0 < b) (hp : 0 < p.w) (hq : 0 < q.w) (dp : p.w ∣ b) (dq : q.w ∣ b) : lessT p q = true ↔ p.x * (b / p.w) < q.x * (b / q.w) ∨ (p.x * (b / p.w) = q.x * (b / q.w) ∧ p.y * (b / p.w) < q.y * (b / q.w)) := by
  have e1 := cancel dp
  have e2 := cancel dq
  have k0 := div_pos hb hp dp
  have l0 := div_pos hb hq dq
  rw [less_iff]
  generalize b / p.w = k at *
  generalize b / q.w = l at *
  have kl := Int.mul_pos k0 l0
  have a1 := key_eq (x := p.x) (x' := q.x) e1 e2
  have a2 := key_eq (x := p.y) (x' := q.y) e1 e2
  rw [← scale_lt kl, ← scale_eq (a := p.x * q.w) kl, ← scale_lt (a := p.y * q.w) kl, a1.1, a1.2, a2.1, a2.2, scale_lt hb, scale_eq hb, scale_lt hb]
theorem same_key {b : Int} {p q : Tr} (hb : 0 < b) (hp : 0 < p.w) (hq : 0 < q.w) (dp : p.w ∣ b) (dq : q.w ∣ b) (h1 : p.x * (b / p.w) = q.x * (b / q.w)) (h2 : p.y * (b / p.w) = q.y * (b / q.w)) : p.x * q.w = q.x * p.w ∧ p.y * q.w = q.y * p.w := by
  have e1 := cancel dp
  have e2 := cancel dq
  have k0 := div_pos hb hp dp
  have l0 := div_pos hb hq dq
  generalize b / p.w = k at *
  generalize b / q.w = l at *
  have kl := Int.mul_pos k0 l0
  have a1 := key_eq (x := p.x) (x' := q.x) e1 e2
  have a2 := key_eq (x := p.y) (x' := q.y) e1 e2
  exact ⟨(scale_eq kl).mp (by rw [a1.1, a1.2, h1]), (scale_eq kl).mp (by rw [a2.1, a2.2, h2])⟩
theorem less_irr (p : Tr) : lessT p p = false := by
  rw [Bool.eq_false_iff]
  intro h
  have := less_iff.mp h
  omega
theorem less_trans {p q r : Tr} (hp : 0 < p.w) (hq : 0 < q.w) (hr : 0 < r.w) (h : lessT p q = true) (g : lessT q r = true) : lessT p r = true := by
  have b0 : 0 < p.w * q.w * r.w := Int.mul_pos (Int.mul_pos hp hq) hr
  have d1 : p.w ∣ p.w * q.w * r.w := Int.dvd_trans (Int.dvd_mul_right _ _) (Int.dvd_mul_right _ _)
  have d2 : q.w ∣ p.w * q.w * r.w := Int.dvd_trans (Int.dvd_mul_left _ _) (Int.dvd_mul_right _ _)
  have d3 : r.w ∣ p.w * q.w * r.w := Int.dvd_mul_left _ _
  rw [less_key b0 hp hq d1 d2] at h
  rw [less_key b0 hq hr d2 d3] at g
  rw [less_key b0 hp hr d1 d3]
  omega
theorem less_asymm {p q : Tr} (hp : 0 < p.w) (hq : 0 < q.w) (h : lessT p q = true) : lessT q p = false := by
  rw [Bool.eq_false_iff]
  intro g
  have := less_trans hp hq hp h g
  rw [less_irr] at this
  cases this
theorem less_tri {n : Nat} {p q : Tr} (hp : p.Lo n) (hq : q.Lo n) (ne : p ≠ q) : lessT p q = true ∨ lessT q p = true := by
  have b0 : 0 < p.w * q.w := Int.mul_pos hp.ok.hw hq.ok.hw
  have d1 : p.w ∣ p.w * q.w := Int.dvd_mul_right _ _
  have d2 : q.w ∣ p.w * q.w := Int.dvd_mul_left _ _
  rw [less_key b0 hp.ok.hw hq.ok.hw d1 d2, less_key b0 hq.ok.hw hp.ok.hw d2 d1]
  rcases Int.lt_trichotomy (p.x * (p.w * q.w / p.w)) (q.x * (p.w * q.w / q.w)) with h | h | h
  · exact .inl (.inl h)
  · rcases Int.lt_trichotomy (p.y * (p.w * q.w / p.w)) (q.y * (p.w * q.w / q.w)) with g | g | g
    · exact .inl (.inr ⟨h, g⟩)
    · obtain ⟨a, b⟩ := same_key b0 hp.ok.hw hq.ok.hw d1 d2 h g
      exact absurd (low3 hp hq a b) ne
    · exact .inr (.inr ⟨h.symm, g⟩)
  · exact .inr (.inl h)
theorem trx0 {t : Tr} {st : Sto} {Q : Kd} : rIxD (.d t.py) (.d (.int 0)) st Q = Q (.d (.int t.x)) st := ixt_0
theorem trx1 {t : Tr} {st : Sto} {Q : Kd} : rIxD (.d t.py) (.d (.int 1)) st Q = Q (.d (.int t.y)) st := ixt_1
theorem trx2 {t : Tr} {st : Sto} {Q : Kd} : rIxD (.d t.py) (.d (.int 2)) st Q = Q (.d (.int t.w)) st := ixt_2
end LB
local macro_rules | `(tactic| walk_at "val") => `(tactic| repeat' (first | exact DL.vls_nil | apply DL.vls_cons | exact DL.val_c | exact DL.val_dict | exact DL.val_neg | exact DL.val_var rfl | apply DL.val_tup | apply DL.val_lst | apply DL.val_lstV | exact DL.val_pow ⟨by decide, by decide, by decide⟩ | decide))
local macro_rules | `(tactic| walk_at "st") => `(tactic| simp only [DL.startD, List.map_cons, List.map_nil, List.length_cons, List.length_nil, Nat.reduceAdd, Nat.reduceSub, List.replicate_succ, List.replicate_zero, List.cons_append, List.nil_append, List.append_nil, Nat.sub_self, Nat.zero_add])
local macro_rules | `(tactic| walk_at "go") => `(tactic| simp only [↓DL.dSeq, ↓DL.dNext, ↓DL.dAsg, ↓DL.dRet, ↓DL.dRetN, ↓DL.dIfS, ↓DL.dDrop, ↓DL.dBin, ↓DL.dCons, ↓DL.dNil, ↓DL.dTup, ↓DL.dC, ↓DL.dNeg, ↓DL.dAnd, ↓DL.dOr, ↓DL.dNot, ↓DL.dIf, ↓DL.dTst, ↓DL.asB, ↓DL.dChain, ↓DL.dAndT, ↓DL.dOrT, ↓DL.dNotT, ↓DL.dCall, ↓DL.dFn0, ↓DL.dFnK, ↓DL.dIs, ↓DL.dSl, ↓DL.dNoP, ↓DL.dPart, ↓DL.dRev, ↓DL.dLst, ↓DL.dLstV, ↓DL.cListV, ↓DL.dDict, ↓DL.dPar, ↓DL.dPar3, ↓DL.tup2, ↓DL.tup3, ↓DL.tup4, ↓DL.tup5, ↓DL.tup22, ↓DL.tup12, ↓DL.hName, ↓DL.hSub, ↓DL.rI2, ↓DL.rSubD, ↓DL.rMulD, ↓DL.rMulX, ↓DL.rDivF, ↓DL.rDivD, ↓DL.rModD, ↓DL.rPowD, ↓DL.rLtD, ↓DL.rLeD, ↓DL.rGtD, ↓DL.rGeD, ↓DL.rAddD, ↓LB.trx0, ↓LB.trx1, ↓LB.trx2, ↓DL.ixt_0, ↓DL.ixt_1, ↓DL.ixt_2, ↓DL.ixt_3, ↓DL.ixt_4, ↓DL.ixl_0, ↓DL.ixl_1, ↓DL.ixl_2, ↓DL.ixl_3, ↓DL.ixl_4, ↓DL.rEqV, ↓DL.rNeV, ↓DL.rSlD, ↓DL.cLen, ↓DL.cAbs, ↓DL.cInt, ↓DL.cStrI, ↓DL.cDivmod, ↓DL.cMin, ↓DL.cMax, ↓DL.cGcd, ↓DL.cLcm, ↓DL.cAll, ↓DL.cRepr, ↓DL.cList, ↓DL.cTuple, ↓DL.rC1, ↓DL.rC2, ↓DL.dNever, ↓DL.dIter, ↓DL.dRng1, ↓DL.dRng2, ↓DL.dYes,
  ↓DL.frz_d, ↓DL.var_zero, ↓DL.var_succ, ↓DL.var_set, ↓DL.var_ne, DL.own_some, DL.no_own2, DL.eqv_int, DL.sh_int, DL.sh_bool, DL.kit_int, DL.kit_bool, DL.kit_tuple, DL.kit_str, DL.is_int, DL.is_bool, DL.is_tuple, DL.is_str, DL.pures_nil, DL.pures_cons, Option.map_some, List.length_cons, List.length_nil, List.length_set, List.map_cons, List.map_nil, DL.pick, List.filterMap_cons, List.filterMap_nil,
  true_and, and_true, ite_true, ite_false, if_true, if_false, reduceIte, reduceCtorEq, ne_eq, not_false_eq_true, Nat.reduceAdd, Nat.reduceLT, Nat.reduceEqDiff, decide_eq_true_eq, Bool.not_true, Bool.not_false, Bool.false_eq_true, eq_self])
local macro_rules | `(tactic| walk_at "gk") => `(tactic| simp only [↓LB.sp_divisor, ↓LB.sp_part, ↓LB.sp_place, ↓LB.sp_is_whole, ↓LB.sp_l_is_whole, ↓LB.sp_is_row, ↓LB.sp_is_lot, ↓LB.sp_is_fraction, ↓LB.sp_l_is_fraction, ↓LB.sp_is_place, ↓LB.sp_is_point, ↓LB.sp_is_told, ↓LB.sp_told, ↓LB.sp_own, ↓LB.sp_side, ↓LB.sp_l_is_less, ↓LB.sp_l_lies_on, ↓LB.sp_l_sign, ↓LB.sp_sign, ↓LB.sp_scaled, ↓LB.sp_crossed, ↓LB.sp_along, ↓LB.sp_is_less, ↓DL.dSeq, ↓DL.dNext, ↓DL.dAsg, ↓DL.dRet, ↓DL.dRetN, ↓DL.dIfS, ↓DL.dDrop, ↓DL.dBin, ↓DL.dCons, ↓DL.dNil, ↓DL.dTup, ↓DL.dC, ↓DL.dNeg, ↓DL.dAnd, ↓DL.dOr, ↓DL.dNot, ↓DL.dIf, ↓DL.dTst, ↓DL.asB, ↓DL.dChain, ↓DL.dAndT, ↓DL.dOrT, ↓DL.dNotT, ↓DL.dCall, ↓DL.dFn0, ↓DL.dFnK, ↓DL.dIs, ↓DL.dSl, ↓DL.dNoP, ↓DL.dPart, ↓DL.dRev, ↓DL.dLst, ↓DL.dLstV, ↓DL.cListV, ↓DL.dDict, ↓DL.dPar, ↓DL.dPar3, ↓DL.tup2, ↓DL.tup3, ↓DL.tup4, ↓DL.tup5, ↓DL.tup22, ↓DL.tup12, ↓DL.hName, ↓DL.hSub, ↓DL.rI2, ↓DL.rSubD, ↓DL.rMulD, ↓DL.rMulX, ↓DL.rDivF, ↓DL.rDivD, ↓DL.rModD, ↓DL.rPowD, ↓DL.rLtD, ↓DL.rLeD, ↓DL.rGtD, ↓DL.rGeD, ↓DL.rAddD, ↓LB.trx0, ↓LB.trx1, ↓LB.trx2, ↓DL.ixt_0, ↓DL.ixt_1, ↓DL.ixt_2, ↓DL.ixt_3, ↓DL.ixt_4, ↓DL.ixl_0, ↓DL.ixl_1, ↓DL.ixl_2, ↓DL.ixl_3, ↓DL.ixl_4, ↓DL.rEqV, ↓DL.rNeV, ↓DL.rSlD, ↓DL.cLen, ↓DL.cAbs, ↓DL.cInt, ↓DL.cStrI, ↓DL.cDivmod, ↓DL.cMin, ↓DL.cMax, ↓DL.cGcd, ↓DL.cLcm, ↓DL.cAll, ↓DL.cRepr, ↓DL.cList, ↓DL.cTuple, ↓DL.rC1, ↓DL.rC2, ↓DL.dNever, ↓DL.dIter, ↓DL.dRng1, ↓DL.dRng2, ↓DL.dYes,
  ↓DL.frz_d, ↓DL.var_zero, ↓DL.var_succ, ↓DL.var_set, ↓DL.var_ne, DL.own_some, DL.no_own2, DL.eqv_int, DL.sh_int, DL.sh_bool, DL.kit_int, DL.kit_bool, DL.kit_tuple, DL.kit_str, DL.is_int, DL.is_bool, DL.is_tuple, DL.is_str, DL.pures_nil, DL.pures_cons, Option.map_some, List.length_cons, List.length_nil, List.length_set, List.map_cons, List.map_nil, DL.pick, List.filterMap_cons, List.filterMap_nil,
  true_and, and_true, ite_true, ite_false, if_true, if_false, reduceIte, reduceCtorEq, ne_eq, not_false_eq_true, Nat.reduceAdd, Nat.reduceLT, Nat.reduceEqDiff, decide_eq_true_eq, Bool.not_true, Bool.not_false, Bool.false_eq_true, eq_self])
namespace LB
open PySem PySem.Spec PyProof.Rows L2 DL
theorem bot_dvd : ∀ (ts : List Tr) (f : Int), 0 < f → (∀ t ∈ ts, 0 < t.w) → f ∣ botT ts f ∧ (∀ t ∈ ts, t.w ∣ botT ts f) ∧ 0 < botT ts f
  | [], f, h, _ => ⟨Int.dvd_refl _, (fun _ h => nomatch h), h⟩
  | t :: r, f, h, hw => by
    have tw := hw t List.mem_cons_self
    have g0 := gc_pos (a := f) tw
    have e1 := cancel (gc_dl f t.w)
    have e2 := cancel (gc_dr f t.w)
    have f0 : 0 < f / gc f t.w := div_pos h g0 (gc_dl f t.w)
    have n0 : 0 < f / gc f t.w * t.w := Int.mul_pos f0 tw
    obtain ⟨h1, h2, h3⟩ := bot_dvd r (f / gc f t.w * t.w) n0 fun u hu => hw u (List.mem_cons_of_mem _ hu)
    refine ⟨Int.dvd_trans ⟨t.w / gc f t.w, ?_⟩ h1, fun u hu => ?_, h3⟩
    · generalize f / gc f t.w = a at *
      generalize t.w / gc f t.w = b at *
      grind
    · rcases List.mem_cons.mp hu with rfl | hu
      · exact Int.dvd_trans (Int.dvd_mul_left _ _) h1
      · exact h2 u hu
theorem bot_B : ∀ (ts : List Tr) (f : Int) (k : Nat), B k f → (∀ t ∈ ts, B 1000 t.w) → B (k + 1000 * ts.length) (botT ts f)
  | [], f, k, h, _ => by simpa [botT] using h
  | t :: r, f, k, h, hw => by
    have := bot_B r (f / gc f t.w * t.w) (k + 1000) (B_mul' (B_div h) (hw t List.mem_cons_self)) fun u hu => hw u (List.mem_cons_of_mem _ hu)
    refine B_mono this ?_
    rw [List.length_cons]
    omega
theorem row_it {ts : List Tr} {x : PyData} (hx : RowOf ts x) {i : Nat} {e : Ed} {st : Sto} {R : ItD → Sto → Prop} (he : e[i]? = some (some (.d x))) (h : R ⟨(ts.map Tr.py).map D.d, none⟩ st) : dIter (dVar i) e st R := by
  rcases hx with rfl | rfl
  · exact ⟨_, he, h⟩
  · exact ⟨_, he, h⟩
theorem r_bottom : ∀ ds st Q, sp_bottom ds st Q → b_bottom { nx := fun _ s' => Q (.d .none) s', rt := Q } (startD N_bottom ds) st := by
  rintro ds st Q ⟨ts, x, rfl, hx, hl, ht, q⟩
  walk_at "st"
  refine .inl ?_
  refine (show dSeq b_bottom_2 b_bottom_3 { nx := fun _ s' => Q (.d .none) s', rt := Q } [some (.d x), some (I 1), none] st from ?_)
  unfold dSeq b_bottom_2 dFor
  refine row_it (i := 0) (e := [some (.d x), some (I 1), none]) hx rfl ?_
  refine ⟨fun i e' s' => s' = st ∧ ∃ (f : Int) (t2 : Option D), e' = [some (.d x), some (I f), t2] ∧ i ≤ ts.length ∧ 0 < f ∧ B (1 + 1000 * i) f ∧ botT (ts.drop i) f = botT ts 1, ⟨rfl, 1, none, rfl, Nat.zero_le _, by decide, by unfold B; decide, rfl⟩, ?_⟩
  rintro i e' s' ⟨rfl, f, t2, rfl, hi, f0, bf, hb⟩
  refine ⟨(fun a ds z => nomatch z), fun hd => ?_, fun d hd => ?_⟩
  · have hd : ((ts.map Tr.py).map D.d).length ≤ i := hd
    rw [List.length_map, List.length_map] at hd
    rw [List.drop_of_length_le hd] at hb
    have hb : f = botT ts 1 := hb
    subst hb
    exact ⟨_, rfl, .inl q⟩
  · have hd : ((ts.map Tr.py).map D.d)[i]? = some d := hd
    rw [List.getElem?_map, List.getElem?_map] at hd
    cases hc : ts[i]? with
    | none =>
      rw [hc] at hd
      cases hd
    | some t =>
      rw [hc] at hd
      cases hd
      have hlt : i < ts.length := (List.getElem?_eq_some_iff.mp hc).1
      have ok := ht t (List.mem_of_getElem? hc)
      have g0 := gc_pos (a := f) ok.hw
      have gB := gc_B (a := f) ok.hw ok.bw
      rw [List.drop_eq_getElem_cons hlt] at hb
      have ht' : ts[i] = t := by
        rw [List.getElem?_eq_getElem hlt] at hc
        exact Option.some.inj hc
      rw [ht'] at hb
      show dAsg _ _ _ [some (.d x), some (I f), some (.d (tri t.x t.y t.w))] s'
      unfold tri
      walk_at "gk"
      refine ⟨divW g0 gB (by decide) (by decide), mulW (B_div bf) ok.bw (by omega) (by decide) (by omega), _, _, rfl, hlt, Int.mul_pos (div_pos f0 g0 (gc_dl _ _)) ok.hw, B_mono (B_mul' (B_div bf) ok.bw) (by omega), hb⟩
/-! rising -/
def keyT (b : Int) (t : Tr) : PyData := .tuple [.int (t.x * (b / t.w)), .int (t.y * (b / t.w)), t.py]
theorem keyT_alike (b : Int) (t u : Tr) : PySem.W.alike (keyT b t) (keyT b u) = true := by simp [keyT, Tr.py, tri, PySem.W.alike, PySem.W.alikeAll]
def leT (b : Int) (t u : Tr) : Bool := PySem.W.dataLe false _root_.id (keyT b t) (keyT b u)
theorem lt_key {b : Int} {t u : Tr} {n : Nat} (hb : 0 < b) (ht : t.Lo n) (hu : u.Lo n) (dt : t.w ∣ b) (du : u.w ∣ b) : PySem.W.dataLt (keyT b t) (keyT b u) = lessT t u := by
  have e1 : PySem.W.alike (.int (t.x * (b / t.w))) (.int (u.x * (b / u.w))) = true := by simp [PySem.W.alike]
  have e2 : PySem.W.alike (.int (t.y * (b / t.w))) (.int (u.y * (b / u.w))) = true := by simp [PySem.W.alike]
  have e3 : PySem.W.alike t.py u.py = true := by simp [Tr.py, tri, PySem.W.alike, PySem.W.alikeAll]
  unfold keyT
  rw [PySem.W.dataLt_tuple, PySem.W.dataLt_cons e1, PySem.W.dataLt_cons e2, PySem.W.dataLt_cons e3]
  have last : PyProof.Rows.lexLt itemOrd (PySem.W.keyToksAll []) (PySem.W.keyToksAll []) = false := PyProof.Rows.lex_irrefl _
  rw [last]
  have k := less_key hb ht.ok.hw hu.ok.hw dt du
  rw [eqv_int, eqv_int, PySem.W.dataLt_int, PySem.W.dataLt_int]
  generalize hX : t.x * (b / t.w) = X at *
  generalize hX' : u.x * (b / u.w) = X' at *
  generalize hY : t.y * (b / t.w) = Y at *
  generalize hY' : u.y * (b / u.w) = Y' at *
  by_cases h1 : X = X'
  · rw [if_pos (decide_eq_true h1)]
    by_cases h2 : Y = Y'
    · rw [if_pos (decide_eq_true h2)]
      have s := same_key hb ht.ok.hw hu.ok.hw dt du (by rw [hX, hX', h1]) (by rw [hY, hY', h2])
      have := low3 ht hu s.1 s.2
      subst this
      rw [less_irr]
      have r : PyData.eqv t.py t.py = true := by simp [Tr.py, tri, PyData.eqv, PyData.eqvAll]
      rw [if_pos r]
    · rw [if_neg (by simpa using h2)]
      rw [Bool.eq_iff_iff, k, decide_eq_true_iff]
      omega
  · rw [if_neg (by simpa using h1)]
    rw [Bool.eq_iff_iff, k, decide_eq_true_iff]
    omega
theorem leT_iff {b : Int} {t u : Tr} {n : Nat} (hb : 0 < b) (ht : t.Lo n) (hu : u.Lo n) (dt : t.w ∣ b) (du : u.w ∣ b) : leT b t u = !lessT u t := by
  show (!PySem.W.dataLt (keyT b u) (keyT b t)) = _
  rw [lt_key hb hu ht du dt]
/-- the first of each lot of alike ones, of the first j -/
def ddT (ts : List Tr) : Nat → List Tr
  | 0 => []
  | j + 1 => ddT ts j ++ (match ts[j]? with
    | some t => if j = 0 ∨ ts[j - 1]? ≠ some t then [t] else []
    | none => [])
theorem dd_mem {ts : List Tr} : ∀ (j : Nat) (t : Tr), t ∈ ddT ts j ↔ ∃ i, i < j ∧ ts[i]? = some t
  | 0, t => by simp [ddT]
  | j + 1, t => by
    unfold ddT
    rw [List.mem_append, dd_mem j t]
    constructor
    · rintro (⟨i, h1, h2⟩ | h)
      · exact ⟨i, by omega, h2⟩
      · split at h
        · rename_i u hu
          split at h
          · rw [List.mem_singleton.mp h]
            exact ⟨j, by omega, hu⟩
          · cases h
        · cases h
    · rintro ⟨i, h1, h2⟩
      by_cases hj : i < j
      · exact .inl ⟨i, hj, h2⟩
      · have e : i = j := by omega
        subst e
        rw [h2]
        by_cases hc : i = 0 ∨ ts[i - 1]? ≠ some t
        · right
          show t ∈ if i = 0 ∨ ts[i - 1]? ≠ some t then [t] else []
          rw [if_pos hc]
          exact List.mem_singleton.mpr rfl
        · left
          have h3 : i ≠ 0 ∧ ts[i - 1]? = some t := by
            refine ⟨fun z => hc (.inl z), ?_⟩
            by_cases z : ts[i - 1]? = some t
            · exact z
            · exact absurd (.inr z) hc
          exact ⟨i - 1, by omega, h3.2⟩
theorem dd_pair {n : Nat} {ts : List Tr} (hl : ∀ t ∈ ts, t.Lo n) (hs : ts.Pairwise (fun a b => lessT b a = false)) : ∀ j, (ddT ts j).Pairwise (fun a b => lessT a b = true)
  | 0 => List.Pairwise.nil
  | j + 1 => by
    unfold ddT
    refine List.pairwise_append.mpr ⟨dd_pair hl hs j, ?_, fun a ha b hb => ?_⟩
    · split
      · split
        · exact List.pairwise_singleton _ _
        · exact List.Pairwise.nil
      · exact List.Pairwise.nil
    · obtain ⟨i, hi, ei⟩ := (dd_mem j a).mp ha
      split at hb
      · rename_i u hu
        split at hb
        · rename_i hc
          rw [List.mem_singleton.mp hb]
          have hj0 : j ≠ 0 := by omega
          have hne : ts[j - 1]? ≠ some u := by
            rcases hc with z | z
            · exact absurd z hj0
            · exact z
          have hjl : j < ts.length := (List.getElem?_eq_some_iff.mp hu).1
          have ep : ts[j - 1]? = some ts[j - 1] := List.getElem?_eq_getElem (by omega)
          have le : ∀ {a b : Nat} {x y : Tr}, a < b → ts[a]? = some x → ts[b]? = some y → lessT y x = false := by
            intro a b x y hab hx hy
            obtain ⟨ha, ex⟩ := List.getElem?_eq_some_iff.mp hx
            obtain ⟨hb, ey⟩ := List.getElem?_eq_some_iff.mp hy
            rw [← ex, ← ey]
            exact List.pairwise_iff_getElem.mp hs a b ha hb hab
          have la := hl a (List.mem_of_getElem? ei)
          have lu := hl u (List.mem_of_getElem? hu)
          have lv := hl _ (List.mem_of_getElem? ep)
          have h1 := le (show j - 1 < j by omega) ep hu
          have nv : ts[j - 1] ≠ u := fun z => hne (by rw [ep, z])
          have h2 : lessT ts[j - 1] u = true := (less_tri lv lu nv).resolve_right (by rw [h1]; decide)
          by_cases ei2 : i = j - 1
          · subst ei2
            rw [ep] at ei
            cases ei
            exact h2
          · have h3 := le (show i < j - 1 by omega) ei ep
            by_cases ea : a = ts[j - 1]
            · rw [ea]
              exact h2
            · exact less_trans la.ok.hw lv.ok.hw lu.ok.hw ((less_tri la lv ea).resolve_right (by rw [h3]; decide)) h2
        · cases hb
      · cases hb
theorem dd_len (S : List Tr) : ∀ j, (ddT S j).length ≤ j := by
  intro j
  induction j with
  | zero => simp [ddT]
  | succ j ih =>
    unfold ddT
    rw [List.length_append]
    split
    · split <;> simp <;> omega
    · simp
      omega
theorem key_sh (b : Int) (t : Tr) : SeqAt.shaped (keyT b t) = true := by
  simp [keyT, Tr.py, tri, SeqAt.shaped, PyData.canLay0, PyData.canLayAll0, PyData.depth, PyData.depthAll]
theorem key_eqv {n : Nat} {b : Int} {t u : Tr} : PyData.eqv (keyT b t) (keyT b u) = decide (t = u) := by
  rw [Bool.eq_iff_iff, decide_eq_true_iff]
  constructor
  · intro h
    have h : PyData.eqvAll [.int (t.x * (b / t.w)), .int (t.y * (b / t.w)), t.py] [.int (u.x * (b / u.w)), .int (u.y * (b / u.w)), u.py] = true := h
    simp [PyData.eqvAll, Tr.py, tri, PyData.eqv] at h
    obtain ⟨_, _, h1, h2, h3⟩ := h
    obtain ⟨x, y, w⟩ := t
    obtain ⟨x', y', w'⟩ := u
    simp only [] at *
    rw [h1, h2, h3]
  · rintro rfl
    simp [keyT, Tr.py, tri, PyData.eqv, PyData.eqvAll]
theorem r_rising : ∀ ds st Q, sp_rising ds st Q → b_rising { nx := fun _ s' => Q (.d .none) s', rt := Q } (startD N_rising ds) st := by
  rintro ds st Q ⟨ts, x, rfl, hx, hl, ht, q⟩
  walk_at "st"
  have hb := bot_dvd ts 1 (by decide) fun t h => (ht t h).ok.hw
  have bB := bot_B ts 1 1 (by unfold B; decide) fun t h => (ht t h).ok.bw
  have bB : B 100001 (botT ts 1) := B_mono bB (by omega)
  refine ⟨_, rfl, ts, x, rfl, hx, hl, fun t h => (ht t h).ok, .inl ?_⟩
  generalize hbb : botT ts 1 = b at *
  obtain ⟨-, hd, b0⟩ := hb
  refine (show dLcV (dIter (dVar 0)) 3 dYes _ _ _ _ from ?_)
  refine lcV_pure ((ts.map Tr.py).map D.d) (fun d => match d with | .d (.tuple [.int x, .int y, .int w]) => keyT b ⟨x, y, w⟩ | _ => .none) (fun R hR => row_it hx rfl hR) ?_ ?_ ?_
  · rw [List.length_map, List.length_map]
    exact Nat.lt_of_le_of_lt hl (by decide)
  · intro d hd' K hK
    obtain ⟨y, hy, rfl⟩ := List.mem_map.mp hd'
    obtain ⟨t, hm, rfl⟩ := List.mem_map.mp hy
    have ok := (ht t hm).ok
    have cd : CDivW b t.w := divW ok.hw ok.bw (by decide) (by decide)
    have cm : ∀ {z}, B 1000 z → CMulW z (b / t.w) := fun h => mulW h (B_div bB) (by decide) (by decide) (by decide)
    refine ⟨_, rfl, _, atI_nat (j := 0) rfl, _, rfl, _, rfl, _, atI_nat (j := 2) rfl, cd, cm ok.bx, ?_⟩
    refine ⟨_, rfl, _, atI_nat (j := 1) rfl, _, rfl, _, rfl, _, atI_nat (j := 2) rfl, cd, cm ok.by_, ?_⟩
    exact ⟨_, rfl, big_ok (by show 3 ≤ 3000; decide), hK⟩
  · have em : ((ts.map Tr.py).map D.d).map (fun d => match d with | .d (.tuple [.int x, .int y, .int w]) => keyT b ⟨x, y, w⟩ | _ => .none) = ts.map (keyT b) := by
      rw [List.map_map, List.map_map]
      rfl
    rw [em]
    refine ⟨ts.map (keyT b), rfl, PySem.W.AllAlike.of (keyT_alike b), PySem.W.Sortable.tuples (fun t => ⟨_, _, rfl⟩), ?_, .inl ⟨_, pures_map _, .inl ?_⟩⟩
    · intro d hd'
      obtain ⟨t, hm, rfl⟩ := List.mem_map.mp hd'
      simp [keyT, Tr.py, tri, PyData.depth, PyData.depthAll]
    · -- the sorted ones
      have es : sortD (ts.map (keyT b)) = (ts.mergeSort (leT b)).map (keyT b) := (PySem.W.sort_maps (keyT b) (fun a _ c _ => rfl)).symm
      rw [es]
      have perm := List.mergeSort_perm ts (leT b)
      generalize hS : ts.mergeSort (leT b) = S at *
      have hSl : ∀ t ∈ S, t.Lo 1000 := fun t h => ht t (perm.mem_iff.mp h)
      have hSd : ∀ t ∈ S, t.w ∣ b := fun t h => hd t (perm.mem_iff.mp h)
      have hSs : S.Pairwise (fun a c => lessT c a = false) := by
        have tot : PySem.W.TotalLe (fun (t u : {t : Tr // t ∈ ts}) => leT b t.1 u.1) := by
          refine ⟨fun x y z h1 h2 => ?_, fun x y => ?_⟩
          · rw [leT_iff b0 (ht _ x.2) (ht _ y.2) (hd _ x.2) (hd _ y.2)] at h1
            rw [leT_iff b0 (ht _ y.2) (ht _ z.2) (hd _ y.2) (hd _ z.2)] at h2
            rw [leT_iff b0 (ht _ x.2) (ht _ z.2) (hd _ x.2) (hd _ z.2)]
            have k1 := less_key b0 (ht _ y.2).ok.hw (ht _ x.2).ok.hw (hd _ y.2) (hd _ x.2)
            have k2 := less_key b0 (ht _ z.2).ok.hw (ht _ y.2).ok.hw (hd _ z.2) (hd _ y.2)
            have k3 := less_key b0 (ht _ z.2).ok.hw (ht _ x.2).ok.hw (hd _ z.2) (hd _ x.2)
            have n1 : ¬ lessT y.1 x.1 = true := by simpa using h1
            have n2 : ¬ lessT z.1 y.1 = true := by simpa using h2
            have n3 : ¬ lessT z.1 x.1 = true := by
              rw [k1] at n1
              rw [k2] at n2
              rw [k3]
              omega
            simpa using n3
          · rw [leT_iff b0 (ht _ x.2) (ht _ y.2) (hd _ x.2) (hd _ y.2), leT_iff b0 (ht _ y.2) (ht _ x.2) (hd _ y.2) (hd _ x.2)]
            cases h : lessT y.1 x.1 with
            | false => exact .inl rfl
            | true =>
              right
              rw [less_asymm (ht _ y.2).ok.hw (ht _ x.2).ok.hw h]
              rfl
        have es2 : S = (ts.attach.mergeSort (fun t u => leT b t.1 u.1)).map (·.1) := by
          rw [PySem.W.sort_maps (s := leT b) (fun x : {t : Tr // t ∈ ts} => x.1) (fun _ _ _ _ => rfl), List.attach_map_subtype_val, hS]
        rw [es2]
        refine List.pairwise_map.mpr ((PySem.W.sort_pairwise tot _).imp fun {x y} h => ?_)
        rw [leT_iff b0 (ht _ x.2) (ht _ y.2) (hd _ x.2) (hd _ y.2)] at h
        simpa using h
      have hSn : S.length ≤ 100 := by rw [perm.length_eq]; exact hl
      refine (show dLcP mkV (dEnum (dCons (dVar 2) dNil)) _ _ _ _ _ _ from ?_)
      refine ⟨_, rfl, ?_⟩
      have lenE : ((List.range (S.map (keyT b)).length).zipWith (fun (i : Nat) x => D.d (.tuple [.int i, x])) (S.map (keyT b))).length = S.length := by rw [enum_len, List.length_map]
      refine ⟨fun j acc st' => st' = st ∧ j ≤ S.length ∧ acc = (ddT S j).map fun t => D.d t.py, ⟨rfl, Nat.zero_le _, rfl⟩, ?_⟩
      rintro j acc st' ⟨rfl, hj, rfl⟩
      refine ⟨(fun a ds z => nomatch z), fun hd' => ?_, fun d hd' => ?_⟩
      · have hd' : S.length ≤ j := by
          rw [← lenE]
          exact hd'
        have ej : j = S.length := by omega
        subst ej
        refine ⟨(ddT S S.length).map Tr.py, ?_, .inl ?_⟩
        · rw [show ((ddT S S.length).map fun t => D.d t.py) = ((ddT S S.length).map Tr.py).map D.d by rw [List.map_map]; rfl]
          exact pures_map _
        · refine q _ (fun t => ?_) (dd_pair hSl hSs _) (Nat.le_trans (dd_len S S.length) (Nat.le_of_eq perm.length_eq))
          rw [dd_mem, ← perm.mem_iff]
          constructor
          · rintro ⟨i, _, h⟩
            exact List.mem_of_getElem? h
          · intro h
            obtain ⟨i, hi, e⟩ := List.getElem_of_mem h
            exact ⟨i, hi, by rw [List.getElem?_eq_getElem hi, e]⟩
      · obtain ⟨x, hx, rfl⟩ := enum_get hd'
        rw [List.getElem?_map] at hx
        cases hc : S[j]? with
        | none =>
          rw [hc] at hx
          cases hx
        | some t =>
          rw [hc] at hx
          cases hx
          have hlt : j < S.length := (List.getElem?_eq_some_iff.mp hc).1
          refine ⟨_, _, rfl, rfl, ?_⟩
          have lenD := dd_len S j
          have push : (j = 0 ∨ S[j - 1]? ≠ some t) → ((ddT S j).map fun t => D.d t.py).length < sizeLine ∧ (st' = st' ∧ j + 1 ≤ S.length ∧ ((ddT S j).map fun t => D.d t.py) ++ [D.d t.py] = (ddT S (j + 1)).map fun t => D.d t.py) := by
            intro h
            refine ⟨?_, rfl, hlt, ?_⟩
            · rw [List.length_map]
              exact Nat.lt_of_le_of_lt (show (ddT S j).length ≤ 100 by omega) (by decide)
            · show _ = (ddT S j ++ _).map _
              rw [hc, List.map_append]
              simp only []
              rw [if_pos h]
              rfl
          have drop : ¬ (j = 0 ∨ S[j - 1]? ≠ some t) → (st' = st' ∧ j + 1 ≤ S.length ∧ ((ddT S j).map fun t => D.d t.py) = (ddT S (j + 1)).map fun t => D.d t.py) := by
            intro h
            refine ⟨rfl, hlt, ?_⟩
            show _ = (ddT S j ++ _).map _
            rw [hc]
            simp only []
            rw [if_neg h, List.append_nil]
          -- the test
          refine ⟨_, rfl, ?_⟩
          show if decide ((j : Int) = 0) = true then _ else _
          by_cases h0 : j = 0
          · rw [if_pos (by simpa using h0)]
            refine (show if true = true then _ else _ from ?_)
            rw [if_pos rfl]
            exact ⟨_, rfl, _, atI_nat (j := 2) rfl, push (.inl h0)⟩
          · rw [if_neg (by simpa using h0)]
            have ep : S[j - 1]? = some S[j - 1] := List.getElem?_eq_getElem (by omega)
            have at1 : atI ((S.map (keyT b)).map D.d) ((j : Int) - 1) = some (D.d (keyT b S[j - 1])) := by
              have := atI_nat (xs := (S.map (keyT b)).map D.d) (j := j - 1) (v := D.d (keyT b S[j - 1])) (by rw [List.getElem?_map, List.getElem?_map, ep]; rfl)
              rwa [show (((j - 1 : Nat)) : Int) = (j : Int) - 1 by omega] at this
            refine ⟨_, rfl, _, rfl, trivial, _, _, rfl, at1, _, rfl, ?_⟩
            show SeqAt.shaped (keyT b S[j - 1]) = true ∧ SeqAt.shaped (keyT b t) = true ∧ _
            refine ⟨key_sh _ _, key_sh _ _, ?_⟩
            rw [key_eqv (n := 0)]
            show if (!decide (S[j - 1] = t)) = true then _ else _
            by_cases h1 : S[j - 1] = t
            · rw [decide_eq_true h1, if_neg (by decide)]
              exact drop (fun z => z.elim h0 fun z => z (by rw [ep, h1]))
            · rw [decide_eq_false h1, if_pos (by decide)]
              exact ⟨_, rfl, _, atI_nat (j := 2) rfl, push (.inr fun z => h1 (by rw [ep] at z; exact Option.some.inj z))⟩
end LB
namespace LB
open PySem PySem.Spec PyProof.Rows L2 DL
/-! ### comprehensions over a list that is told by its items -/
theorem lcV_map {α : Type} {ti : TId} {i : Nat} {te : TEd} {e : Ed} {st : Sto} {Q : Kd} (zs : List α) (g : α → D) (f : α → PyData) (dep : Option (Addr × List D)) (hat : ∀ a ds, dep = some (a, ds) → st a = some ds) (hti : ∀ R : ItD → Sto → Prop, R ⟨zs.map g, dep⟩ st → ti e st R) (hl : zs.length < sizeLine)
    (hf : ∀ z ∈ zs, ∀ K : Kd, K (.d (f z)) st → te (e.set i (some (g z))) st K) (q : Q (.d (.list (zs.map f))) st) : dLcV ti i dYes te e st Q := by
  refine hti _ ⟨fun j acc st' => st' = st ∧ j ≤ zs.length ∧ acc = (zs.take j).map fun z => D.d (f z), ⟨rfl, Nat.zero_le _, rfl⟩, ?_⟩
  rintro j acc st' ⟨rfl, hj, rfl⟩
  refine ⟨hat, fun hd => ?_, fun d hd => ?_⟩
  · have hd : (zs.map g).length ≤ j := hd
    rw [List.length_map] at hd
    rw [List.take_of_length_le hd]
    refine ⟨zs.map f, ?_, q⟩
    rw [show (zs.map fun z => D.d (f z)) = (zs.map f).map D.d by rw [List.map_map]; rfl]
    exact pures_map _
  · have hd : (zs.map g)[j]? = some d := hd
    rw [List.getElem?_map] at hd
    cases hc : zs[j]? with
    | none =>
      rw [hc] at hd
      cases hd
    | some z =>
      rw [hc] at hd
      cases hd
      have hlt : j < zs.length := (List.getElem?_eq_some_iff.mp hc).1
      refine (show dYes (e.set i (some (g z))) st' (fun b s2 => if b = true then te (e.set i (some (g z))) s2 _ else _) from ?_)
      refine hf z (List.mem_of_getElem? hc) _ ⟨?_, rfl, hlt, ?_⟩
      · rw [List.length_map, List.length_take]
        omega
      · rw [List.take_add_one, hc, List.map_append]
        rfl
theorem lcV_flt {α : Type} {ti : TId} {i : Nat} {tt : TTd} {te : TEd} {e : Ed} {st : Sto} {Q : Kd} (zs : List α) (g : α → D) (c : α → Bool) (f : α → PyData) (dep : Option (Addr × List D)) (hat : ∀ a ds, dep = some (a, ds) → st a = some ds) (hti : ∀ R : ItD → Sto → Prop, R ⟨zs.map g, dep⟩ st → ti e st R) (hl : zs.length < sizeLine)
    (ht : ∀ z ∈ zs, ∀ K : Bool → Sto → Prop, K (c z) st → tt (e.set i (some (g z))) st K) (hf : ∀ z ∈ zs, ∀ K : Kd, K (.d (f z)) st → te (e.set i (some (g z))) st K) (q : Q (.d (.list ((zs.filter c).map f))) st) : dLcV ti i tt te e st Q := by
  refine hti _ ⟨fun j acc st' => st' = st ∧ j ≤ zs.length ∧ acc = ((zs.take j).filter c).map fun z => D.d (f z), ⟨rfl, Nat.zero_le _, rfl⟩, ?_⟩
  rintro j acc st' ⟨rfl, hj, rfl⟩
  refine ⟨hat, fun hd => ?_, fun d hd => ?_⟩
  · have hd : (zs.map g).length ≤ j := hd
    rw [List.length_map] at hd
    rw [List.take_of_length_le hd]
    refine ⟨(zs.filter c).map f, ?_, q⟩
    rw [show ((zs.filter c).map fun z => D.d (f z)) = ((zs.filter c).map f).map D.d by rw [List.map_map]; rfl]
    exact pures_map _
  · have hd : (zs.map g)[j]? = some d := hd
    rw [List.getElem?_map] at hd
    cases hc : zs[j]? with
    | none =>
      rw [hc] at hd
      cases hd
    | some z =>
      rw [hc] at hd
      cases hd
      have hlt : j < zs.length := (List.getElem?_eq_some_iff.mp hc).1
      have hm := List.mem_of_getElem? hc
      refine ht z hm _ ?_
      cases hg : c z with
      | false =>
        rw [if_neg (by decide)]
        refine ⟨rfl, hlt, ?_⟩
        rw [List.take_add_one, hc, List.filter_append, List.map_append]
        simp [hg]
      | true =>
        rw [if_pos rfl]
        refine hf z hm _ ⟨?_, rfl, hlt, ?_⟩
        · rw [List.length_map]
          have := List.length_filter_le c (zs.take j)
          rw [List.length_take] at this
          omega
        · rw [List.take_add_one, hc, List.filter_append, List.map_append]
          simp [hg]
/-! ### bounds -/
theorem det_B {n : Nat} {p q r : Tr} (hp : p.Ok n) (hq : q.Ok n) (hr : r.Ok n) : B (3 * n + 4) (det p q r) := by
  have t : ∀ {a b c d e : Int}, B n a → B n b → B n c → B n d → B n e → B (3 * n + 2) (a * (b * c - d * e)) := fun h1 h2 h3 h4 h5 =>
    B_mul h1 (B_sub (n := 2 * n + 1) (B_mul' h2 h3) (B_mul' h4 h5) (by omega) (by omega)) (by omega)
  unfold det
  exact B_add (B_sub (n := 3 * n + 3) (t hp.bx hq.by_ hr.bw hr.by_ hq.bw) (t hp.by_ hq.bx hr.bw hr.bx hq.bw) (by omega) (by omega)) (t hp.bw hq.bx hr.by_ hr.bx hq.by_) (by omega) (by omega)
theorem cross_eq {p q r s : Tr} : (det r s p * q.x - det r s q * p.x = det p q s * r.x - det p q r * s.x) ∧ (det r s p * q.y - det r s q * p.y = det p q s * r.y - det p q r * s.y) ∧ (det r s p * q.w - det r s q * p.w = det p q s * r.w - det p q r * s.w) := by
  unfold det
  refine ⟨?_, ?_, ?_⟩ <;> grind
theorem both_zero {n : Nat} {p q r s : Tr} (hr : r.Lo n) (hs : s.Lo n) (ne : r ≠ s) (ha : det r s p = 0) (hb : det r s q = 0) : det p q r = 0 ∧ det p q s = 0 := by
  obtain ⟨e1, e2, e3⟩ := cross_eq (p := p) (q := q) (r := r) (s := s)
  rw [ha, hb] at e1 e2 e3
  have rw0 := hr.ok.hw
  have sw0 := hs.ok.hw
  generalize hc : det p q r = c at *
  generalize hd : det p q s = d at *
  have e1 : d * r.x = c * s.x := by omega
  have e2 : d * r.y = c * s.y := by omega
  have e3 : d * r.w = c * s.w := by omega
  by_cases h : c = 0
  · refine ⟨h, ?_⟩
    rw [h, Int.zero_mul] at e3
    rcases Int.mul_eq_zero.mp e3 with z | z
    · exact z
    · omega
  · by_cases h' : d = 0
    · rw [h', Int.zero_mul] at e3
      rcases Int.mul_eq_zero.mp e3.symm with z | z
      · exact absurd z h
      · omega
    · exfalso
      refine ne (low3 hr hs ?_ ?_)
      · refine Int.eq_of_mul_eq_mul_left (a := c * d) (Int.mul_ne_zero h h') ?_
        grind
      · refine Int.eq_of_mul_eq_mul_left (a := c * d) (Int.mul_ne_zero h h') ?_
        grind
theorem cross_w {n : Nat} {p q r s : Tr} (hp : p.Lo n) (hq : q.Lo n) (hr : r.Lo n) (hs : s.Lo n) (ne : r ≠ s) (h0 : ¬ (det p q r = 0 ∧ det p q s = 0)) (h1 : ¬ 0 < det r s p * det r s q) : det r s p * q.w - det r s q * p.w ≠ 0 := by
  have pw := hp.ok.hw
  have qw := hq.ok.hw
  have h2 : ¬ (det r s p = 0 ∧ det r s q = 0) := fun z => h0 (both_zero hr hs ne z.1 z.2)
  generalize det r s p = a at *
  generalize det r s q = b at *
  rcases Int.lt_trichotomy a 0 with ha | ha | ha
  · have hb : 0 ≤ b := by
      rcases Int.lt_or_le b 0 with z | z
      · exact absurd (Int.mul_pos_of_neg_of_neg ha z) h1
      · exact z
    have := Int.mul_neg_of_neg_of_pos ha qw
    have := Int.mul_nonneg hb (Int.le_of_lt pw)
    omega
  · subst ha
    have hb : b ≠ 0 := fun z => h2 ⟨rfl, z⟩
    have := Int.mul_ne_zero hb (Int.ne_of_gt pw)
    rw [Int.zero_mul]
    omega
  · have hb : b ≤ 0 := by
      rcases Int.lt_or_le 0 b with z | z
      · exact absurd (Int.mul_pos ha z) h1
      · exact z
    have := Int.mul_pos ha qw
    have := Int.mul_nonpos_of_nonpos_of_nonneg hb (Int.le_of_lt pw)
    omega
theorem cross_B {p q r s : Tr} (hp : p.Ok 230) (hq : q.Ok 230) (hr : r.Ok 230) (hs : s.Ok 230) : B 1000 (det r s p * q.x - det r s q * p.x) ∧ B 1000 (det r s p * q.y - det r s q * p.y) ∧ B 1000 (det r s p * q.w - det r s q * p.w) := by
  have a := det_B hr hs hp
  have b := det_B hr hs hq
  exact ⟨B_sub (B_mul' a hq.bx) (B_mul' b hp.bx) (by decide) (by decide), B_sub (B_mul' a hq.by_) (B_mul' b hp.by_) (by decide) (by decide), B_sub (B_mul' a hq.bw) (B_mul' b hp.bw) (by decide) (by decide)⟩
theorem Tr.Ok.four {n : Nat} {t : Tr} (h : t.Ok n) (hn : n ≤ 4000) : B 4000 t.x ∧ B 4000 t.y ∧ B 4000 t.w := ⟨B_mono h.bx hn, B_mono h.by_ hn, B_mono h.bw hn⟩
theorem side_ {p q r : Tr} {st : Sto} {Q : Kd} (hp : B 4000 p.x ∧ B 4000 p.y ∧ B 4000 p.w) (hq : B 4000 q.x ∧ B 4000 q.y ∧ B 4000 q.w) (hr : B 4000 r.x ∧ B 4000 r.y ∧ B 4000 r.w) (k : Q (I (det p q r)) st) : sp_side [.d p.py, .d q.py, .d r.py] st Q := ⟨hp, hq, hr, k⟩
theorem lies_ {p q r : Tr} {st : Sto} {Q : Kd} (hp : B 4000 p.x ∧ B 4000 p.y ∧ B 4000 p.w) (hq : B 4000 q.x ∧ B 4000 q.y ∧ B 4000 q.w) (hr : B 4000 r.x ∧ B 4000 r.y ∧ B 4000 r.w) (k : Q (Bo (onT p q r)) st) : sp_l_lies_on [.d p.py, .d q.py, .d r.py] st Q := ⟨hp, hq, hr, k⟩
theorem r_l_meet : ∀ ds st Q, sp_l_meet ds st Q → b_l_meet { nx := fun _ s' => Q (.d .none) s', rt := Q } (startD N_l_meet ds) st := by
  rintro ds st Q ⟨p, q, r, s, rfl, hp, hq, hr, hs, n1, n2, k⟩
  walk_at "st"
  have fp := hp.ok.four (by decide)
  have fq := hq.ok.four (by decide)
  have fr_ := hr.ok.four (by decide)
  have fs := hs.ok.four (by decide)
  unfold b_l_meet b_l_meet_1 b_l_meet_2
  walk_at "go"
  refine ⟨big_ok (by decide), ?_⟩
  refine side_ fr_ fs fp ?_
  refine side_ fr_ fs fq ?_
  refine side_ fp fq fr_ ?_
  refine side_ fp fq fs ?_
  walk_at "go"
  refine ⟨big_ok (by decide), ?_⟩
  show b_l_meet_3 _ [some (.d (.tuple [p.py, q.py])), some (.d (.tuple [r.py, s.py])), some (.d p.py), some (.d q.py), some (.d r.py), some (.d s.py), some (I (det r s p)), some (I (det r s q)), some (I (det p q r)), some (I (det p q s)), none, none] st
  have L1 : ∀ c : Tr → Bool, (([p, q].filter c).map Tr.py).length ≤ 2 := fun c => by
    rw [List.length_map]
    exact List.length_filter_le c [p, q]
  have L2 : ∀ c : Tr → Bool, (([r, s].filter c).map Tr.py).length ≤ 2 := fun c => by
    rw [List.length_map]
    exact List.length_filter_le c [r, s]
  have coll : det p q r = 0 ∧ det p q s = 0 → ∀ e : Ed, e[0]? = some (some (.d (.tuple [p.py, q.py]))) → e[1]? = some (some (.d (.tuple [r.py, s.py]))) → e[2]? = some (some (.d p.py)) → e[3]? = some (some (.d q.py)) → e[4]? = some (some (.d r.py)) → e[5]? = some (some (.d s.py)) → e.length = 12 →
      dLcV (dIter (dVar 0)) 11 (dTst (dFn0 sp_l_lies_on (dCons (dVar 4) (dCons (dVar 5) (dCons (dVar 11) dNil))))) (dVar 11) e st (frz fun d st1 =>
          dBin rAddD (dVar 10) (dLcV (dIter (dVar 1)) 11 (dTst (dFn0 sp_l_lies_on (dCons (dVar 2) (dCons (dVar 3) (dCons (dVar 11) dNil))))) (dVar 11)) (e.set 10 (some d)) st1 fun x st2 => sp_rising [x] st2 (frz Q)) := by
    intro hc e e0 e1 e2 e3 e4 e5 el
    have at11 : ∀ {x : Option D} {e : Ed}, e.length = 12 → (e.set 11 x)[11]? = some x := fun h => List.getElem?_set_self (by omega)
    have atne : ∀ {x : Option D} {e : Ed} {i : Nat}, i ≠ 11 → (e.set 11 x)[i]? = e[i]? := fun h => List.getElem?_set_ne (Ne.symm h)
    refine lcV_flt [p, q] (fun t => .d t.py) (fun t => onT r s t) Tr.py none (fun a ds z => nomatch z) (fun R hR => ⟨_, e0, hR⟩) (by show 2 < sizeLine; decide) ?_ ?_ (.inl ?_)
    · intro z hz K hK
      have fz : B 4000 z.x ∧ B 4000 z.y ∧ B 4000 z.w := by
        rcases List.mem_cons.mp hz with rfl | hz
        · exact fp
        · rw [List.mem_singleton.mp hz]
          exact fq
      exact ⟨_, (atne (by decide)).trans e4, _, (atne (by decide)).trans e5, _, at11 el, lies_ fr_ fs fz hK⟩
    · intro z hz K hK
      exact ⟨_, at11 el, hK⟩
    have el' : ∀ x, (e.set 10 x).length = 12 := fun x => by rw [List.length_set]; exact el
    have at10 : ∀ {x : Option D} {i : Nat}, i ≠ 10 → (e.set 10 x)[i]? = e[i]? := fun h => List.getElem?_set_ne (Ne.symm h)
    refine ⟨_, List.getElem?_set_self (by omega), ?_⟩
    refine lcV_flt [r, s] (fun t => .d t.py) (fun t => onT p q t) Tr.py none (fun a ds z => nomatch z) (fun R hR => ⟨_, (at10 (by decide)).trans e1, hR⟩) (by show 2 < sizeLine; decide) ?_ ?_ ?_
    · intro z hz K hK
      have fz : B 4000 z.x ∧ B 4000 z.y ∧ B 4000 z.w := by
        rcases List.mem_cons.mp hz with rfl | hz
        · exact fr_
        · rw [List.mem_singleton.mp hz]
          exact fs
      exact ⟨_, (atne (by decide)).trans ((at10 (by decide)).trans e2), _, (atne (by decide)).trans ((at10 (by decide)).trans e3), _, at11 (el' _), lies_ fp fq fz hK⟩
    · intro z hz K hK
      exact ⟨_, at11 (el' _), hK⟩
    have l1 := L1 fun t => onT r s t
    have l2 := L2 fun t => onT p q t
    refine ⟨big_ok (by omega), [p, q].filter (fun t => onT r s t) ++ [r, s].filter (fun t => onT p q t), _, rfl, .inl ?_, ?_, ?_, ?_⟩
    · rw [List.map_append]
    · rw [List.length_map] at l1 l2
      rw [List.length_append]
      omega
    · intro t ht
      rcases List.mem_append.mp ht with h | h
      · have := (List.mem_filter.mp h).1
        rcases List.mem_cons.mp this with rfl | h
        · exact hp.up (by decide)
        · rw [List.mem_singleton.mp h]
          exact hq.up (by decide)
      · have := (List.mem_filter.mp h).1
        rcases List.mem_cons.mp this with rfl | h
        · exact hr.up (by decide)
        · rw [List.mem_singleton.mp h]
          exact hs.up (by decide)
    · intro out ho hpw hlen
      refine .inl (k out ?_ ?_ ?_)
      · unfold MeetR
        rw [if_pos hc]
        refine ⟨fun t => ?_, hpw⟩
        rw [ho, List.mem_append, List.mem_filter, List.mem_filter]
      · intro t ht
        have := (ho t).mp ht
        rcases List.mem_append.mp this with h | h
        · have := (List.mem_filter.mp h).1
          rcases List.mem_cons.mp this with rfl | h
          · exact hp.up (by decide)
          · rw [List.mem_singleton.mp h]
            exact hq.up (by decide)
        · have := (List.mem_filter.mp h).1
          rcases List.mem_cons.mp this with rfl | h
          · exact hr.up (by decide)
          · rw [List.mem_singleton.mp h]
            exact hs.up (by decide)
      · rw [List.length_map] at l1 l2
        rw [List.length_append] at hlen
        omega
  have dB : ∀ {a b c : Tr}, a.Lo 230 → b.Lo 230 → c.Lo 230 → B 694 (det a b c) := fun h1 h2 h3 => det_B h1.ok h2.ok h3.ok
  have two : ¬ (det p q r = 0 ∧ det p q s = 0) → CMulW (det r s p) (det r s q) ∧
        if 0 < det r s p * det r s q then 0 ≤ sizeLine ∧ Q (.d (.list [])) st
        else CMulW (det p q r) (det p q s) ∧ if 0 < det p q r * det p q s then 0 ≤ sizeLine ∧ Q (.d (.list [])) st
            else CMulW (det r s p) q.x ∧ CMulW (det r s q) p.x ∧ CMulW (det r s p) q.y ∧ CMulW (det r s q) p.y ∧ CMulW (det r s p) q.w ∧ CMulW (det r s q) p.w ∧
              sp_place [I (det r s p * q.x - det r s q * p.x), I (det r s p * q.y - det r s q * p.y), I (det r s p * q.w - det r s q * p.w)] st fun x st1 => match pures [x] with
                | some xs => 1 ≤ sizeLine ∧ Q (.d (.list xs)) st1
                | none => False := by
    intro hc
    have cm : ∀ {i j : Int}, B 694 i → B 230 j → CMulW i j := fun h g => mulW' h g
    refine ⟨mulW' (dB hr hs hp) (dB hr hs hq), ?_⟩
    have nil : (0 < det r s p * det r s q ∨ 0 < det p q r * det p q s) → 0 ≤ sizeLine ∧ Q (.d (.list [])) st := fun h => ⟨big_ok (by decide), k [] (by
      unfold MeetR
      rw [if_neg hc, if_pos h]) (fun _ h => nomatch h) (by decide)⟩
    by_cases h1 : 0 < det r s p * det r s q
    · rw [if_pos h1]
      exact nil (.inl h1)
    · rw [if_neg h1]
      refine ⟨mulW' (dB hp hq hr) (dB hp hq hs), ?_⟩
      by_cases h2 : 0 < det p q r * det p q s
      · rw [if_pos h2]
        exact nil (.inr h2)
      · rw [if_neg h2]
        obtain ⟨b1, b2, b3⟩ := cross_B hp.ok hq.ok hr.ok hs.ok
        have cw := cross_w hp hq hr hs n2 hc h1
        refine ⟨cm (dB hr hs hp) hq.ok.bx, cm (dB hr hs hq) hp.ok.bx, cm (dB hr hs hp) hq.ok.by_, cm (dB hr hs hq) hp.ok.by_, cm (dB hr hs hp) hq.ok.bw, cm (dB hr hs hq) hp.ok.bw, cw, B_mono b1 (by decide), B_mono b2 (by decide), B_mono b3 (by decide), big_ok (by decide), ?_⟩
        refine k [crossS p q r s] ?_ ?_ (by show 1 ≤ 4; decide)
        · unfold MeetR
          rw [if_neg hc, if_neg (by rintro (h | h); exact h1 h; exact h2 h)]
        · intro t ht
          rw [List.mem_singleton.mp ht]
          exact placeS_lo cw b1 b2 b3
  have rest : ¬ (det p q r = 0 ∧ det p q s = 0) → (dSeq b_l_meet_4 b_l_meet_5) { nx := fun _ s' => Q (.d .none) s', rt := Q } [some (.d (.tuple [p.py, q.py])), some (.d (.tuple [r.py, s.py])), some (.d p.py), some (.d q.py), some (.d r.py), some (.d s.py), some (I (det r s p)), some (I (det r s q)), some (I (det p q r)), some (I (det p q s)), none, none] st := by
    intro hc
    unfold b_l_meet_4 b_l_meet_5
    walk_at "go"
    exact two hc
  refine ⟨_, rfl, ?_⟩
  show if decide (det p q r = 0) = true then _ else _
  by_cases hc : det p q r = 0
  · rw [if_pos (decide_eq_true hc)]
    refine ⟨_, rfl, ?_⟩
    show if decide (det p q s = 0) = true then _ else _
    by_cases hd : det p q s = 0
    · rw [if_pos (decide_eq_true hd)]
      exact coll ⟨hc, hd⟩ _ rfl rfl rfl rfl rfl rfl rfl
    · rw [if_neg (by simpa using hd)]
      exact rest (fun h => hd h.2)
  · rw [if_neg (by simpa using hc)]
    exact rest (fun h => hc h.1)
end LB
namespace LB
open PySem PySem.Spec PyProof.Rows L2 DL
theorem lay_all : ∀ {xs : List PyData}, (∀ x ∈ xs, x.canLay0 = true) → PyData.canLayAll0 xs = true
  | [], _ => by simp [PyData.canLayAll0]
  | x :: xs, h => by
    rw [PyData.canLayAll0, h x List.mem_cons_self, lay_all fun y hy => h y (List.mem_cons_of_mem _ hy)]
    rfl
theorem depth_all {n : Nat} : ∀ {xs : List PyData}, (∀ x ∈ xs, x.depth ≤ n) → PyData.depthAll xs ≤ n
  | [], _ => by simp [PyData.depthAll]
  | x :: xs, h => by
    rw [PyData.depthAll]
    exact Nat.max_le.mpr ⟨h x List.mem_cons_self, depth_all fun y hy => h y (List.mem_cons_of_mem _ hy)⟩
theorem sh_list {xs : List PyData} (h : ∀ x ∈ xs, x.canLay0 = true ∧ x.depth ≤ 60) : SeqAt.shaped (.list xs) = true := by
  unfold SeqAt.shaped
  rw [Bool.and_eq_true, decide_eq_true_iff, PyData.canLay0, PyData.depth]
  have := depth_all fun x hx => (h x hx).2
  exact ⟨lay_all fun x hx => (h x hx).1, by omega⟩
theorem sh_tuple {xs : List PyData} (h : ∀ x ∈ xs, x.canLay0 = true ∧ x.depth ≤ 60) : SeqAt.shaped (.tuple xs) = true := by
  unfold SeqAt.shaped
  rw [Bool.and_eq_true, decide_eq_true_iff, PyData.canLay0, PyData.depth]
  have := depth_all fun x hx => (h x hx).2
  exact ⟨lay_all fun x hx => (h x hx).1, by omega⟩
theorem tr_lay (t : Tr) : t.py.canLay0 = true ∧ t.py.depth ≤ 60 := by simp [Tr.py, tri, PyData.canLay0, PyData.canLayAll0, PyData.depth, PyData.depthAll]
theorem pairT_lay (z : Tr × Tr) : (pairT z).canLay0 = true ∧ (pairT z).depth ≤ 60 := by simp [pairT, Tr.py, tri, PyData.canLay0, PyData.canLayAll0, PyData.depth, PyData.depthAll]
theorem nil_sh : SeqAt.shaped (.list []) = true := by simp [SeqAt.shaped, PyData.canLay0, PyData.canLayAll0, PyData.depth, PyData.depthAll]
/-- xs != [] -/
theorem ne_nil {xs : List PyData} {st : Sto} {Q : Kd} (h : ∀ x ∈ xs, x.canLay0 = true ∧ x.depth ≤ 60) (q : Q (Bo (decide (xs ≠ []))) st) : rNeV (.d (.list xs)) (.d (.list [])) st Q := by
  refine (show SeqAt.shaped (.list xs) = true ∧ SeqAt.shaped (.list []) = true ∧ Q (.d (.bool (!PyData.eqv (.list xs) (.list [])))) st from ⟨sh_list h, nil_sh, ?_⟩)
  have : (!PyData.eqv (.list xs) (.list [])) = decide (xs ≠ []) := by
    cases xs with
    | nil => simp [PyData.eqv, PyData.eqvAll]
    | cons x r => simp [PyData.eqv, PyData.eqvAll]
  rw [this]
  exact q
theorem own_ {p : Pt} {st : Sto} {Q : Kd} (h : p.Ok) (q : Q (.d (ownT p).py) st) : sp_own [.d p.py] st Q := ⟨h.hb, h.hd, h.ba, h.bb, h.bc, h.bd, q⟩
theorem told_ {t : Tr} {st : Sto} {Q : Kd} (h : t.Ok 1600) (q : Q (.d (toldP t).py) st) : sp_told [.d t.py] st Q := ⟨h, q⟩
theorem r_places : ∀ ds st Q, sp_places ds st Q → b_places { nx := fun _ s' => Q (.d .none) s', rt := Q } (startD N_places ds) st := by
  rintro ds st Q ⟨zs, rfl, hl, hz, q⟩
  walk_at "st"
  refine (show dLcV (dIter (dVar 0)) 1 dYes _ _ _ _ from ?_)
  refine lcV_map zs (fun z => .d (pairP z)) (fun z => pairT (ownT z.1, ownT z.2)) none (fun a ds z => nomatch z) (fun R hR => ⟨_, rfl, ?_⟩) (Nat.lt_of_le_of_lt hl (by decide)) ?_ (.inl q)
  · show R ⟨(zs.map pairP).map D.d, none⟩ st
    rw [List.map_map]
    exact hR
  · intro z hm K hK
    obtain ⟨h1, h2⟩ := hz z hm
    refine ⟨_, rfl, _, atI_nat (j := 0) rfl, ?_⟩
    dsimp only [dNil]
    refine own_ h1.ok ?_
    refine ⟨_, rfl, _, atI_nat (j := 1) rfl, ?_⟩
    dsimp only [dNil]
    refine own_ h2.ok ?_
    exact ⟨big_ok (by show 2 ≤ 3000; decide), hK⟩
theorem r_middle : ∀ ds st Q, sp_middle ds st Q → b_middle { nx := fun _ s' => Q (.d .none) s', rt := Q } (startD N_middle ds) st := by
  rintro ds st Q ⟨p, q, rfl, hp, hq, k⟩
  walk_at "st"
  unfold b_middle
  walk_at "go"
  have w0 : 0 < 2 * p.w * q.w := Int.mul_pos (Int.mul_pos (by decide) hp.hw) hq.hw
  have b2 : B 2 2 := by unfold B; decide
  have bx : B 500 (p.x * q.w + q.x * p.w) := B_add (B_mul' hp.bx hq.bw) (B_mul' hq.bx hp.bw) (by decide) (by decide)
  have by_ : B 500 (p.y * q.w + q.y * p.w) := B_add (B_mul' hp.by_ hq.bw) (B_mul' hq.by_ hp.bw) (by decide) (by decide)
  have bw : B 500 (2 * p.w * q.w) := B_mono (B_mul' (B_mul' b2 hp.bw) hq.bw) (by decide)
  refine ⟨mulW' hp.bx hq.bw, mulW' hq.bx hp.bw, mulW' hp.by_ hq.bw, mulW' hq.by_ hp.bw, mulW' b2 hp.bw, mulW' (B_mul' b2 hp.bw) hq.bw, Int.ne_of_gt w0, B_mono bx (by decide), B_mono by_ (by decide), B_mono bw (by decide), .inl ?_⟩
  exact k (placeS _ _ _) ((placeS_lo (Int.ne_of_gt w0) bx by_ bw).up (by decide))
theorem G_lo {p : Pt} (h : p.G) : (ownT p).Lo 230 := (own_lo (n := 65) h.hb h.hd (B_mul h.ba h.bd (by decide)) (B_mul h.bc h.bb (by decide)) (B_mul h.bb h.bd (by decide))).up (by decide)
theorem Sm_lo {p : Pt} (h : p.Sm) : (ownT p).Lo 230 := (own_lo (n := 220) h.hb h.hd (B_mul h.ba h.bd (by decide)) (B_mul h.bc h.bb (by decide)) (B_mul h.bb h.bd (by decide))).up (by decide)
theorem r_any_place : ∀ ds st Q, sp_any_place ds st Q → b_any_place { nx := fun _ s' => Q (.d .none) s', rt := Q } (startD N_any_place ds) st := by
  rintro ds st Q ⟨p, x, y, s, u, w, zs, ls, rfl, F, hzl, hll, hz, hls, n, ys, hst, hy, hn, k⟩
  walk_at "st"
  have fin : ∀ (t : Tr) (m : Nat) (zs : List D), t.Lo 1000 → SprL zs m → m ≤ n + 4 → Q (.d t.py) (put st p zs) := fun t m zs ht hz hm => spS_done k ⟨t, rfl, ht⟩ hz hm
  refine ⟨_, rfl, draw_ hst hy (by omega) (by decide) (by decide) fun i zs1 i0 i1 hy => .inl ?_⟩
  have last : b_any_place_4 { nx := fun _ s' => Q (.d .none) s', rt := Q } [some (.own p), some (.d (frP x y s u w)), some (.d (.list (zs.map pairT))), some (.d (.list (ls.map Tr.py))), some (I i), none, none, none] (put st p zs1) := by
    refine ⟨_, rfl, _, rfl, F, n + 1, zs1, put_same, hy, by omega, ?_⟩
    rintro _ zs2 ⟨q, rfl, hq⟩ hy
    rw [put_put]
    exact own_ hq.sm.ok (.inl (fin _ _ _ ((G_lo hq).up (by decide)) hy (by omega)))
  have three : b_any_place_3 { nx := b_any_place_4 { nx := fun _ s' => Q (.d .none) s', rt := Q }, rt := Q } [some (.own p), some (.d (frP x y s u w)), some (.d (.list (zs.map pairT))), some (.d (.list (ls.map Tr.py))), some (I i), none, none, none] (put st p zs1) := by
    refine ⟨_, rfl, ?_⟩
    show if decide (i = 4) = true then _ else _
    by_cases h4 : i = 4
    · rw [if_pos (decide_eq_true h4)]
      refine ⟨_, rfl, big_ok (by show 0 ≤ 3000; decide), ?_⟩
      refine ne_nil (fun x hx => ?_) ?_
      · obtain ⟨t, _, rfl⟩ := List.mem_map.mp hx
        exact tr_lay t
      · show if decide (ls.map Tr.py ≠ []) = true then _ else _
        by_cases hn' : ls.map Tr.py ≠ []
        · rw [if_pos (decide_eq_true hn')]
          refine ⟨_, rfl, _, rfl, one_lst put_same hy (by omega) (List.length_pos_iff.mpr hn') (by rw [List.length_map]; omega) fun v zs2 hv hy => ?_⟩
          obtain ⟨t, ht, rfl⟩ := List.mem_map.mp hv
          rw [put_put]
          exact .inl (fin t _ _ (hls t ht) hy (by omega))
        · rw [if_neg (by simpa using hn')]
          exact last
    · rw [if_neg (by simpa using h4)]
      exact last
  refine ⟨_, rfl, trivial, ?_⟩
  show if decide (i < 4) = true then _ else _
  by_cases h4 : i < 4
  · rw [if_pos (decide_eq_true h4)]
    refine ⟨_, rfl, big_ok (by show 0 ≤ 3000; decide), ?_⟩
    refine ne_nil (fun x hx => ?_) ?_
    · obtain ⟨t, _, rfl⟩ := List.mem_map.mp hx
      exact pairT_lay t
    · show if decide (zs.map pairT ≠ []) = true then _ else _
      by_cases hn' : zs.map pairT ≠ []
      · rw [if_pos (decide_eq_true hn')]
        have lz : (zs.map pairT).length < 1000 := by rw [List.length_map]; omega
        refine ⟨_, rfl, _, rfl, one_lst put_same hy (by omega) (List.length_pos_iff.mpr hn') lz fun v zs2 hv hy => ?_⟩
        obtain ⟨z1, hz1, rfl⟩ := List.mem_map.mp hv
        rw [put_put]
        refine ⟨_, rfl, _, rfl, one_lst put_same hy (by omega) (List.length_pos_iff.mpr hn') lz fun v zs3 hv hy => ?_⟩
        obtain ⟨z2, hz2, rfl⟩ := List.mem_map.mp hv
        rw [put_put]
        obtain ⟨l1, l2, d1⟩ := hz z1 hz1
        obtain ⟨m1, m2, d2⟩ := hz z2 hz2
        have mid : ∀ (a b : Tr) , a.Lo 230 → b.Lo 230 → sp_middle [.d a.py, .d b.py] (put st p zs3) (frz Q) := fun a b ha hb => ⟨a, b, rfl, ha.ok, hb.ok, fun r hr => .inl (fin r _ _ hr hy (by omega))⟩
        have tail : ∀ out : List Tr, (∀ t ∈ out, t.Lo 1000) → out.length ≤ 4 → (dSeq (dIfS (dTst (dBin rNeV (dVar 7) (dLstV dNil))) (dRet (dFn0 sp_one_of (dCons (dVar 0) (dCons (dVar 7) dNil)))) dNext) (dRet (dIf (dTst (dBin rEqV (dVar 4) (dC (.int 0)))) (dFn0 sp_middle (dCons (dBin rIxD (dVar 5) (dC (.int 0))) (dCons (dBin rIxD (dVar 5) (dC (.int 1))) dNil))) (dFn0 sp_middle (dCons (dBin rIxD (dVar 6) (dC (.int 0))) (dCons (dBin rIxD (dVar 5) (dC (.int 1))) dNil)))))) { nx := dSeq b_any_place_3 b_any_place_4 { nx := fun _ s' => Q (.d .none) s', rt := Q }, rt := Q }
            [some (.own p), some (.d (frP x y s u w)), some (.d (.list (zs.map pairT))), some (.d (.list (ls.map Tr.py))), some (I i), some (.d (pairT z1)), some (.d (pairT z2)), some (.d (.list (out.map Tr.py)))] (put st p zs3) := by
          intro out ho hol
          refine ⟨_, rfl, big_ok (by show 0 ≤ 3000; decide), ?_⟩
          refine ne_nil (fun x hx => ?_) ?_
          · obtain ⟨t, _, rfl⟩ := List.mem_map.mp hx
            exact tr_lay t
          · show if decide (out.map Tr.py ≠ []) = true then _ else _
            by_cases ho' : out.map Tr.py ≠ []
            · rw [if_pos (decide_eq_true ho')]
              refine ⟨_, rfl, _, rfl, one_lst put_same hy (by omega) (List.length_pos_iff.mpr ho') (by rw [List.length_map]; omega) fun v zs4 hv hy => ?_⟩
              obtain ⟨t, ht, rfl⟩ := List.mem_map.mp hv
              rw [put_put]
              exact .inl (fin t _ _ (ho t ht) hy (by omega))
            · rw [if_neg (by simpa using ho')]
              refine ⟨_, rfl, ?_⟩
              show if decide (i = 0) = true then _ else _
              by_cases h0 : i = 0
              · rw [if_pos (decide_eq_true h0)]
                exact ⟨_, rfl, _, atI_nat (j := 0) rfl, _, rfl, _, atI_nat (j := 1) rfl, mid z1.1 z1.2 l1 l2⟩
              · rw [if_neg (by simpa using h0)]
                exact ⟨_, rfl, _, atI_nat (j := 0) rfl, _, rfl, _, atI_nat (j := 1) rfl, mid z2.1 z1.2 m1 l2⟩
        refine ⟨_, rfl, ?_⟩
        show if decide (i = 2) = true then _ else _
        by_cases h2 : i = 2
        · rw [if_pos (decide_eq_true h2)]
          refine ⟨_, rfl, _, rfl, z1.1, z1.2, z2.1, z2.2, rfl, l1, l2, m1, m2, d1, d2, fun out _ ho hol => .inl ?_⟩
          exact tail out ho hol
        · rw [if_neg (by simpa using h2)]
          refine ⟨_, rfl, ?_⟩
          show if decide (i = 1) = true then _ else _
          by_cases h1 : i = 1
          · rw [if_pos (decide_eq_true h1)]
            refine ⟨_, rfl, _, atI_nat (j := 0) rfl, big_ok (by show 1 ≤ 3000; decide), .inl ?_⟩
            exact tail [z1.1] (fun t ht => by rw [List.mem_singleton.mp ht]; exact l1.up (by decide)) (by show 1 ≤ 4; decide)
          · rw [if_neg (by simpa using h1)]
            refine ⟨big_ok (by show 0 ≤ 3000; decide), .inl ?_⟩
            exact tail [] (fun _ h => nomatch h) (by decide)
      · rw [if_neg (by simpa using hn')]
        exact three
  · rw [if_neg (by simpa using h4)]
    exact three
end LB
namespace LB
open PySem PySem.Spec PyProof.Rows L2 DL
/-! ### two readings of what two segments have in common -/
theorem rel_ne {p q : Pt} {t u : Tr} (hp : p.Ok) (hq : q.Ok) (h : Rel p t) (g : Rel q u) (ne : p ≠ q) : ¬ (t.x * u.w = u.x * t.w ∧ t.y * u.w = u.y * t.w) := by
  rintro ⟨e1, e2⟩
  obtain ⟨h1, h2, h3, h4, h5⟩ := h
  obtain ⟨g1, g2, g3, g4, g5⟩ := g
  have a : p.a * q.b = q.a * p.b := by
    refine Int.eq_of_mul_eq_mul_left (a := t.w * u.w) (Int.mul_ne_zero (by omega) (by omega)) ?_
    grind
  have b : p.c * q.d = q.c * p.d := by
    refine Int.eq_of_mul_eq_mul_left (a := t.w * u.w) (Int.mul_ne_zero (by omega) (by omega)) ?_
    grind
  obtain ⟨a1, a2⟩ := low hp.hb hq.hb hp.g1 hq.g1 a
  obtain ⟨b1, b2⟩ := low hp.hd hq.hd hp.g2 hq.g2 b
  apply ne
  obtain ⟨a, b, c, d⟩ := p
  obtain ⟨a', b', c', d'⟩ := q
  simp only [] at *
  rw [a1, a2, b1, b2]
theorem both_zero' {p q r s : Tr} (rw0 : 0 < r.w) (sw0 : 0 < s.w) (ne : ¬ (r.x * s.w = s.x * r.w ∧ r.y * s.w = s.y * r.w)) (ha : det r s p = 0) (hb : det r s q = 0) : det p q r = 0 ∧ det p q s = 0 := by
  obtain ⟨e1, e2, e3⟩ := cross_eq (p := p) (q := q) (r := r) (s := s)
  rw [ha, hb] at e1 e2 e3
  generalize hc : det p q r = c at *
  generalize hd : det p q s = d at *
  have e1 : d * r.x = c * s.x := by omega
  have e2 : d * r.y = c * s.y := by omega
  have e3 : d * r.w = c * s.w := by omega
  by_cases h : c = 0
  · refine ⟨h, ?_⟩
    rw [h, Int.zero_mul] at e3
    rcases Int.mul_eq_zero.mp e3 with z | z
    · exact z
    · omega
  · by_cases h' : d = 0
    · rw [h', Int.zero_mul] at e3
      rcases Int.mul_eq_zero.mp e3.symm with z | z
      · exact absurd z h
      · omega
    · exfalso
      refine ne ⟨?_, ?_⟩
      · refine Int.eq_of_mul_eq_mul_left (a := c * d) (Int.mul_ne_zero h h') ?_
        grind
      · refine Int.eq_of_mul_eq_mul_left (a := c * d) (Int.mul_ne_zero h h') ?_
        grind
theorem cross_w' {p q r s : Tr} (pw : 0 < p.w) (qw : 0 < q.w) (rw0 : 0 < r.w) (sw0 : 0 < s.w) (ne : ¬ (r.x * s.w = s.x * r.w ∧ r.y * s.w = s.y * r.w)) (h0 : ¬ (det p q r = 0 ∧ det p q s = 0)) (h1 : ¬ 0 < det r s p * det r s q) : det r s p * q.w - det r s q * p.w ≠ 0 := by
  have h2 : ¬ (det r s p = 0 ∧ det r s q = 0) := fun z => h0 (both_zero' rw0 sw0 ne z.1 z.2)
  generalize det r s p = a at *
  generalize det r s q = b at *
  rcases Int.lt_trichotomy a 0 with ha | ha | ha
  · have hb : 0 ≤ b := by
      rcases Int.lt_or_le b 0 with z | z
      · exact absurd (Int.mul_pos_of_neg_of_neg ha z) h1
      · exact z
    have := Int.mul_neg_of_neg_of_pos ha qw
    have := Int.mul_nonneg hb (Int.le_of_lt pw)
    omega
  · subst ha
    have hb : b ≠ 0 := fun z => h2 ⟨rfl, z⟩
    have := Int.mul_ne_zero hb (Int.ne_of_gt pw)
    rw [Int.zero_mul]
    omega
  · have hb : b ≤ 0 := by
      rcases Int.lt_or_le 0 b with z | z
      · exact absurd (Int.mul_pos ha z) h1
      · exact z
    have := Int.mul_pos ha qw
    have := Int.mul_nonpos_of_nonpos_of_nonneg hb (Int.le_of_lt pw)
    omega
theorem cr_cr {p q r s : Tr} : crT (crT p q) (crT r s) = ⟨det r s p * q.x - det r s q * p.x, det r s p * q.y - det r s q * p.y, det r s p * q.w - det r s q * p.w⟩ := by
  unfold crT det
  simp only [Tr.mk.injEq]
  refine ⟨?_, ?_, ?_⟩ <;> grind
theorem sgn_mul {a b : Int} : 0 < sgn a * sgn b ↔ 0 < a * b := by
  rcases Int.lt_trichotomy a 0 with ha | ha | ha <;> rcases Int.lt_trichotomy b 0 with hb | hb | hb
  · have := Int.mul_pos_of_neg_of_neg ha hb
    have e1 := sgn_lt.mpr ha
    have e2 := sgn_lt.mpr hb
    rw [e1, e2]
    exact ⟨fun _ => this, fun _ => by decide⟩
  · subst hb
    simp [sgn]
  · have := Int.mul_neg_of_neg_of_pos ha hb
    have e1 := sgn_lt.mpr ha
    have e2 : sgn b = 1 := by unfold sgn; rw [if_neg (by omega), if_pos hb]
    rw [e1, e2]
    exact ⟨fun h => absurd h (by decide), fun h => absurd h (by omega)⟩
  · subst ha
    simp [sgn]
  · subst ha
    simp [sgn]
  · subst ha
    simp [sgn]
  · have := Int.mul_neg_of_pos_of_neg ha hb
    have e1 : sgn a = 1 := by unfold sgn; rw [if_neg (by omega), if_pos ha]
    have e2 := sgn_lt.mpr hb
    rw [e1, e2]
    exact ⟨fun h => absurd h (by decide), fun h => absurd h (by omega)⟩
  · subst hb
    simp [sgn]
  · have := Int.mul_pos ha hb
    have e1 : sgn a = 1 := by unfold sgn; rw [if_neg (by omega), if_pos ha]
    have e2 : sgn b = 1 := by unfold sgn; rw [if_neg (by omega), if_pos hb]
    rw [e1, e2]
    exact ⟨fun _ => this, fun _ => by decide⟩
/-- a place's parts in lowest terms hang on nothing but the place -/
theorem told_eq {t u : Tr} (ht : 0 < t.w) (hu : 0 < u.w) (h1 : t.x * u.w = u.x * t.w) (h2 : t.y * u.w = u.y * t.w) : toldP t = toldP u := by
  obtain ⟨a1, a2, a3, a4, a5⟩ := rel_told ht
  obtain ⟨b1, b2, b3, b4, b5⟩ := rel_told hu
  have g1 : gc (toldP t).a (toldP t).b = 1 := gc_low ht
  have g2 : gc (toldP t).c (toldP t).d = 1 := gc_low ht
  have g3 : gc (toldP u).a (toldP u).b = 1 := gc_low hu
  have g4 : gc (toldP u).c (toldP u).d = 1 := gc_low hu
  generalize toldP t = T at *
  generalize toldP u = U at *
  have e1 : T.a * U.b = U.a * T.b := by
    refine Int.eq_of_mul_eq_mul_left (a := t.w * u.w) (Int.mul_ne_zero (by omega) (by omega)) ?_
    grind
  have e2 : T.c * U.d = U.c * T.d := by
    refine Int.eq_of_mul_eq_mul_left (a := t.w * u.w) (Int.mul_ne_zero (by omega) (by omega)) ?_
    grind
  obtain ⟨x1, x2⟩ := low a4 b4 g1 g3 e1
  obtain ⟨y1, y2⟩ := low a5 b5 g2 g4 e2
  obtain ⟨a, b, c, d⟩ := T
  obtain ⟨a', b', c', d'⟩ := U
  simp only [] at *
  rw [x1, x2, y1, y2]
theorem told_rel {p : Pt} {t : Tr} (hp : p.Ok) (h : Rel p t) : toldP t = p := by
  obtain ⟨a1, a2, a3, a4, a5⟩ := rel_told h.hw
  obtain ⟨b1, b2, b3, b4, b5⟩ := h
  have g1 : gc (toldP t).a (toldP t).b = 1 := gc_low b3
  have g2 : gc (toldP t).c (toldP t).d = 1 := gc_low b3
  have q1 := hp.g1
  have q2 := hp.g2
  generalize toldP t = T at *
  have e1 : T.a * p.b = p.a * T.b := by
    refine Int.eq_of_mul_eq_mul_left (a := t.w) (by omega) ?_
    grind
  have e2 : T.c * p.d = p.c * T.d := by
    refine Int.eq_of_mul_eq_mul_left (a := t.w) (by omega) ?_
    grind
  obtain ⟨x1, x2⟩ := low a4 b4 g1 q1 e1
  obtain ⟨y1, y2⟩ := low a5 b5 g2 q2 e2
  obtain ⟨a, b, c, d⟩ := T
  obtain ⟨a', b', c', d'⟩ := p
  simp only [] at *
  rw [x1, x2, y1, y2]
theorem placeS_rel {x y w : Int} (hw : w ≠ 0) : 0 < (placeS x y w).w ∧ (placeS x y w).x * w = x * (placeS x y w).w ∧ (placeS x y w).y * w = y * (placeS x y w).w := by
  have key : ∀ {x y w : Int}, 0 < w → 0 < (placeT x y w).w ∧ (placeT x y w).x * w = x * (placeT x y w).w ∧ (placeT x y w).y * w = y * (placeT x y w).w := by
    intro x y w h
    obtain ⟨h1, h2, h3, h4, h5⟩ := place_x (x := x) (y := y) h
    generalize gc (gc x y) w = g at *
    generalize placeT x y w = t at *
    refine ⟨h5, ?_, ?_⟩ <;> grind
  unfold placeS
  split
  · rename_i h
    exact key h
  · obtain ⟨h1, h2, h3⟩ := key (x := -x) (y := -y) (w := -w) (by omega)
    generalize placeT (-x) (-y) (-w) = t at *
    refine ⟨h1, ?_, ?_⟩ <;> grind
theorem unsc_told {t u : Tr} (ht : t.w ≠ 0) (hu : 0 < u.w) (h1 : t.x * u.w = u.x * t.w) (h2 : t.y * u.w = u.y * t.w) : unscP t = toldP u := by
  unfold unscP
  split
  · rename_i h
    exact told_eq h hu h1 h2
  · exact told_eq (by show 0 < -t.w; omega) hu (by show -t.x * u.w = u.x * -t.w; grind) (by show -t.y * u.w = u.y * -t.w; grind)
theorem det_s {t u t1 u1 t2 u2 : Tr} (h : u.w * t.x = t.w * u.x ∧ u.w * t.y = t.w * u.y) (h1 : u1.w * t1.x = t1.w * u1.x ∧ u1.w * t1.y = t1.w * u1.y) (h2 : u2.w * t2.x = t2.w * u2.x ∧ u2.w * t2.y = t2.w * u2.y) :
    u.w * u1.w * u2.w * det t t1 t2 = t.w * t1.w * t2.w * det u u1 u2 := by
  have a1 : u.w * det t t1 t2 = t.w * det u t1 t2 := det_s1 h
  have a2 : u1.w * det t1 t2 u = t1.w * det u1 t2 u := det_s1 h1
  have a3 : u2.w * det t2 u u1 = t2.w * det u2 u u1 := det_s1 h2
  have r1 : det t1 t2 u = det u t1 t2 := det_rot
  have r2 : det u1 t2 u = det u u1 t2 := det_rot
  have r3 : det t2 u u1 = det u u1 t2 := by unfold det; grind
  have r4 : det u2 u u1 = det u u1 u2 := by unfold det; grind
  rw [r1, r2] at a2
  rw [r3, r4] at a3
  generalize det t t1 t2 = A at *
  generalize det u t1 t2 = B at *
  generalize det u u1 t2 = C at *
  generalize det u u1 u2 = D at *
  grind
end LB
namespace LB
open PySem PySem.Spec PyProof.Rows L2 DL
/-! ### one number for a place's rank -/
theorem big_all (f : Tr → Int) : ∀ ts : List Tr, ∃ M : Int, 0 < M ∧ ∀ t ∈ ts, -M < f t ∧ f t < M
  | [] => ⟨1, by decide, fun t h => absurd h (List.not_mem_nil)⟩
  | u :: r => by
    obtain ⟨M, h0, h⟩ := big_all f r
    refine ⟨M + (f u).natAbs, by omega, fun t ht => ?_⟩
    rcases List.mem_cons.mp ht with e | e
    · subst e
      omega
    · have := h t e
      omega
theorem zkey {n : Nat} (ts : List Tr) (hl : ∀ t ∈ ts, t.Lo n) : ∃ Z : Tr → Int, ∀ a ∈ ts, ∀ c ∈ ts, (lessT a c = true ↔ Z a < Z c) ∧ (a = c ↔ Z a = Z c) := by
  obtain ⟨_, dv, b0⟩ := bot_dvd ts 1 (by decide) (fun t h => (hl t h).ok.hw)
  generalize botT ts 1 = b at *
  obtain ⟨M, M0, hM⟩ := big_all (fun t => t.y * (b / t.w)) ts
  refine ⟨fun t => t.x * (b / t.w) * (2 * M) + t.y * (b / t.w), fun a ha c hc => ?_⟩
  have k1 := less_key b0 (hl a ha).ok.hw (hl c hc).ok.hw (dv a ha) (dv c hc)
  have k2 : a.x * (b / a.w) = c.x * (b / c.w) → a.y * (b / a.w) = c.y * (b / c.w) → a = c := fun h1 h2 => low3 (hl a ha) (hl c hc) (same_key b0 (hl a ha).ok.hw (hl c hc).ok.hw (dv a ha) (dv c hc) h1 h2).1 (same_key b0 (hl a ha).ok.hw (hl c hc).ok.hw (dv a ha) (dv c hc) h1 h2).2
  have ma := hM a ha
  have mc := hM c hc
  have e : (a = c ↔ a.x * (b / a.w) = c.x * (b / c.w) ∧ a.y * (b / a.w) = c.y * (b / c.w)) := ⟨fun h => by rw [h]; exact ⟨rfl, rfl⟩, fun h => k2 h.1 h.2⟩
  rw [k1, e]
  simp only [] at ma mc ⊢
  generalize a.x * (b / a.w) = X at *
  generalize c.x * (b / c.w) = X' at *
  generalize a.y * (b / a.w) = Y at *
  generalize c.y * (b / c.w) = Y' at *
  have g1 : X < X' → X * (2 * M) + 2 * M ≤ X' * (2 * M) := fun h => by
    have := Int.mul_le_mul_of_nonneg_right (show X + 1 ≤ X' by omega) (show 0 ≤ 2 * M by omega)
    rw [Int.add_mul] at this
    omega
  have g2 : X' < X → X' * (2 * M) + 2 * M ≤ X * (2 * M) := fun h => by
    have := Int.mul_le_mul_of_nonneg_right (show X' + 1 ≤ X by omega) (show 0 ≤ 2 * M by omega)
    rw [Int.add_mul] at this
    omega
  rcases Int.lt_trichotomy X X' with h | h | h
  · have := g1 h
    omega
  · subst h
    omega
  · have := g2 h
    omega
/-- strictly rising rows of the same members are the same -/
theorem asc_one : ∀ (l m : List Tr), (∀ t ∈ l, 0 < t.w) → l.Pairwise (fun a b => lessT a b = true) → m.Pairwise (fun a b => lessT a b = true) → (∀ t, t ∈ l ↔ t ∈ m) → l = m
  | [], [], _, _, _, _ => rfl
  | [], b :: m, _, _, _, h => absurd ((h b).mpr List.mem_cons_self) List.not_mem_nil
  | a :: l, [], _, _, _, h => absurd ((h a).mp List.mem_cons_self) List.not_mem_nil
  | a :: l, b :: m, hw, hl, hm, h => by
    rw [List.pairwise_cons] at hl hm
    have wa := hw a List.mem_cons_self
    have e : a = b := by
      rcases List.mem_cons.mp ((h a).mp List.mem_cons_self) with z | z
      · exact z
      · rcases List.mem_cons.mp ((h b).mpr List.mem_cons_self) with y | y
        · exact y.symm
        · have h1 := hm.1 a z
          have h2 := hl.1 b y
          have wb := hw b (List.mem_cons_of_mem _ y)
          rw [less_asymm wa wb h2] at h1
          cases h1
    subst e
    rw [asc_one l m (fun t ht => hw t (List.mem_cons_of_mem _ ht)) hl.2 hm.2 (fun t => ?_)]
    constructor
    · intro ht
      rcases List.mem_cons.mp ((h t).mp (List.mem_cons_of_mem _ ht)) with z | z
      · have := hl.1 t ht
        rw [z, less_irr] at this
        cases this
      · exact z
    · intro ht
      rcases List.mem_cons.mp ((h t).mpr (List.mem_cons_of_mem _ ht)) with z | z
      · have := hm.1 t ht
        rw [z, less_irr] at this
        cases this
      · exact z
end LB
namespace LB
open PySem PySem.Spec PyProof.Rows L2 DL
def loT (p q : Tr) : Tr := if lessT q p then q else p
def hiT (p q : Tr) : Tr := if lessT q p then p else q
def overT (p q r s : Tr) : List Tr :=
  let l := if lessT (loT p q) (loT r s) then loT r s else loT p q
  let h := if lessT (hiT r s) (hiT p q) then hiT r s else hiT p q
  if l = h then [l] else if lessT l h then [l, h] else []
theorem own_inj {p q : Pt} (hp : p.Ok) (hq : q.Ok) : ownT p = ownT q ↔ p = q := by
  constructor
  · intro h
    have a := told_rel hp (rel_own hp.hb hp.hd)
    have b := told_rel hq (rel_own hq.hb hq.hd)
    rw [← a, ← b, h]
  · intro h
    rw [h]
theorem ahead_own {p q : Pt} (hp : p.Ok) (hq : q.Ok) : ahead p q = lessT (ownT p) (ownT q) := ahead_less (rel_own hp.hb hp.hd) (rel_own hq.hb hq.hd) hp hq
theorem lo_own {p q : Pt} (hp : p.Ok) (hq : q.Ok) : ownT (loP p q) = loT (ownT p) (ownT q) ∧ (loP p q).Ok ∧ ownT (hiP p q) = hiT (ownT p) (ownT q) ∧ (hiP p q).Ok := by
  unfold loP loT hiP hiT
  rw [ahead_own hq hp]
  cases lessT (ownT q) (ownT p)
  · exact ⟨rfl, hp, rfl, hq⟩
  · exact ⟨rfl, hq, rfl, hp⟩
theorem over_own {p q r s : Pt} (hp : p.Ok) (hq : q.Ok) (hr : r.Ok) (hs : s.Ok) : (overP p q r s).map ownT = overT (ownT p) (ownT q) (ownT r) (ownT s) ∧ ∀ x ∈ overP p q r s, x.Ok := by
  obtain ⟨a1, a2, a3, a4⟩ := lo_own hp hq
  obtain ⟨b1, b2, b3, b4⟩ := lo_own hr hs
  unfold overP overT
  simp only []
  rw [← a1, ← a3, ← b1, ← b3]
  generalize loP p q = l at *
  generalize hiP p q = h at *
  generalize loP r s = l' at *
  generalize hiP r s = h' at *
  have e1 : (if lessT (ownT l) (ownT l') = true then ownT l' else ownT l) = ownT (if ahead l l' = true then l' else l) := by
    rw [ahead_own a2 b2]
    split <;> rfl
  have e2 : (if lessT (ownT h') (ownT h) = true then ownT h' else ownT h) = ownT (if ahead h' h = true then h' else h) := by
    rw [ahead_own b4 a4]
    split <;> rfl
  have o1 : (if ahead l l' = true then l' else l).Ok := by split <;> assumption
  have o2 : (if ahead h' h = true then h' else h).Ok := by split <;> assumption
  rw [e1, e2]
  generalize (if ahead l l' = true then l' else l) = L at *
  generalize (if ahead h' h = true then h' else h) = H at *
  rw [ahead_own o1 o2]
  by_cases c : L = H
  · rw [if_pos c, if_pos (by rw [c])]
    exact ⟨rfl, fun x hx => by rw [List.mem_singleton.mp hx]; exact o1⟩
  · rw [if_neg c, if_neg (fun z => c ((own_inj o1 o2).mp z))]
    split
    · exact ⟨rfl, fun x hx => by
        rcases List.mem_cons.mp hx with z | z
        · rw [z]; exact o1
        · rw [List.mem_singleton.mp z]; exact o2⟩
    · exact ⟨rfl, fun x hx => absurd hx List.not_mem_nil⟩
/-- between, by rank -/
def Btw (Z : Tr → Int) (a b t : Tr) : Prop := (Z a < Z b ∧ Z a ≤ Z t ∧ Z t ≤ Z b) ∨ (¬ Z a < Z b ∧ Z b ≤ Z t ∧ Z t ≤ Z a)
def KeyOn (Z : Tr → Int) (ts : List Tr) : Prop := ∀ a ∈ ts, ∀ c ∈ ts, (lessT a c = true ↔ Z a < Z c) ∧ (a = c ↔ Z a = Z c)
theorem on_btw {Z : Tr → Int} {ts : List Tr} (hk : KeyOn Z ts) {a b t : Tr} (ha : a ∈ ts) (hb : b ∈ ts) (ht : t ∈ ts) : onT a b t = true ↔ det a b t = 0 ∧ Btw Z a b t := by
  unfold onT Btw
  by_cases d : det a b t = 0
  · rw [if_neg (fun z => z d)]
    have k1 := (hk a ha b hb).1
    have k2 := (hk t ht a ha).1
    have k3 := (hk t ht b hb).1
    have k4 := (hk a ha t ht).1
    have k5 := (hk b hb t ht).1
    have f : ∀ {x : Bool} {P : Prop}, (x = true ↔ P) → ((!x) = true ↔ ¬ P) := fun h => by rw [← h, Bool.not_eq_true', Bool.not_eq_true]
    split
    · rename_i h
      rw [Bool.and_eq_true, f k2, f k5]
      have := k1.mp h
      omega
    · rename_i h
      rw [Bool.and_eq_true, f k3, f k4]
      have : ¬ Z a < Z b := fun z => h (k1.mpr z)
      omega
  · rw [if_pos d]
    constructor
    · intro h
      cases h
    · intro h
      exact absurd h.1 d
theorem over_mem {Z : Tr → Int} {ts : List Tr} (hk : KeyOn Z ts) {p q r s : Tr} (hp : p ∈ ts) (hq : q ∈ ts) (hr : r ∈ ts) (hs : s ∈ ts) (pq : p ≠ q) (rs : r ≠ s) :
    (∀ t, t ∈ overT p q r s ↔ (t ∈ [p, q] ∧ Btw Z r s t) ∨ (t ∈ [r, s] ∧ Btw Z p q t)) ∧ (overT p q r s).Pairwise (fun a b => lessT a b = true)
    ∧ (∀ a b, overT p q r s = [a, b] → ∀ t, Btw Z a b t ↔ Btw Z p q t ∧ Btw Z r s t) ∧ (∀ t ∈ ts, Btw Z p q t → Btw Z r s t → (overT p q r s).length < 2 → overT p q r s = [t]) := by
  have key : ∀ l h l' h', l ∈ ts → h ∈ ts → l' ∈ ts → h' ∈ ts → Z l < Z h → Z l' < Z h' → ∀ L H, L = (if lessT l l' then l' else l) → H = (if lessT h' h then h' else h) → ∀ out, out = (if L = H then [L] else if lessT L H then [L, H] else []) →
      (∀ t, t ∈ out ↔ (t ∈ [l, h] ∧ Z l' ≤ Z t ∧ Z t ≤ Z h') ∨ (t ∈ [l', h'] ∧ Z l ≤ Z t ∧ Z t ≤ Z h)) ∧ out.Pairwise (fun a b => lessT a b = true)
      ∧ (∀ a b, out = [a, b] → ∀ t, Btw Z a b t ↔ (Z l ≤ Z t ∧ Z t ≤ Z h) ∧ (Z l' ≤ Z t ∧ Z t ≤ Z h')) ∧ (∀ t ∈ ts, (Z l ≤ Z t ∧ Z t ≤ Z h) → (Z l' ≤ Z t ∧ Z t ≤ Z h') → out.length < 2 → out = [t]) := by
    intro l h l' h' i1 i2 i3 i4 z1 z2 L H eL eH out eo
    have mL : L ∈ ts ∧ (L = l ∧ ¬ Z l < Z l' ∨ L = l' ∧ Z l < Z l') := by
      rw [eL]
      split
      · rename_i c
        exact ⟨i3, .inr ⟨rfl, (hk l i1 l' i3).1.mp c⟩⟩
      · rename_i c
        exact ⟨i1, .inl ⟨rfl, fun z => c ((hk l i1 l' i3).1.mpr z)⟩⟩
    have mH : H ∈ ts ∧ (H = h ∧ ¬ Z h' < Z h ∨ H = h' ∧ Z h' < Z h) := by
      rw [eH]
      split
      · rename_i c
        exact ⟨i4, .inr ⟨rfl, (hk h' i4 h i2).1.mp c⟩⟩
      · rename_i c
        exact ⟨i2, .inl ⟨rfl, fun z => c ((hk h' i4 h i2).1.mpr z)⟩⟩
    obtain ⟨tL, wL⟩ := mL
    obtain ⟨tH, wH⟩ := mH
    have eqL := (hk L tL H tH).2
    have ltL := (hk L tL H tH).1
    have zL : Z L = Z l ∧ Z l' ≤ Z l ∨ Z L = Z l' ∧ Z l < Z l' := by
      rcases wL with ⟨e, c⟩ | ⟨e, c⟩ <;> rw [e] <;> omega
    have zH : Z H = Z h ∧ Z h ≤ Z h' ∨ Z H = Z h' ∧ Z h' < Z h := by
      rcases wH with ⟨e, c⟩ | ⟨e, c⟩ <;> rw [e] <;> omega
    have mem : ∀ t, ((t ∈ [l, h] ∧ Z l' ≤ Z t ∧ Z t ≤ Z h') ∨ (t ∈ [l', h'] ∧ Z l ≤ Z t ∧ Z t ≤ Z h)) ↔ t ∈ ts ∧ ((Z t = Z l ∨ Z t = Z h) ∧ Z l' ≤ Z t ∧ Z t ≤ Z h' ∨ (Z t = Z l' ∨ Z t = Z h') ∧ Z l ≤ Z t ∧ Z t ≤ Z h) := by
      intro t
      simp only [List.mem_cons, List.not_mem_nil, or_false]
      constructor
      · rintro (⟨e, c⟩ | ⟨e, c⟩)
        · rcases e with e | e <;> subst e
          · exact ⟨i1, .inl ⟨.inl rfl, c⟩⟩
          · exact ⟨i2, .inl ⟨.inr rfl, c⟩⟩
        · rcases e with e | e <;> subst e
          · exact ⟨i3, .inr ⟨.inl rfl, c⟩⟩
          · exact ⟨i4, .inr ⟨.inr rfl, c⟩⟩
      · rintro ⟨it, (⟨e, c⟩ | ⟨e, c⟩)⟩
        · rcases e with e | e
          · exact .inl ⟨.inl ((hk t it l i1).2.mpr e), c⟩
          · exact .inl ⟨.inr ((hk t it h i2).2.mpr e), c⟩
        · rcases e with e | e
          · exact .inr ⟨.inl ((hk t it l' i3).2.mpr e), c⟩
          · exact .inr ⟨.inr ((hk t it h' i4).2.mpr e), c⟩
    by_cases c1 : L = H
    · rw [if_pos c1] at eo
      subst eo
      have c2 := eqL.mp c1
      refine ⟨fun t => ?_, List.pairwise_singleton _ _, fun a b e => by simp at e, fun t it c d _ => ?_⟩
      · rw [mem t, List.mem_singleton]
        constructor
        · intro e
          subst e
          exact ⟨tL, by omega⟩
        · rintro ⟨it, c⟩
          exact (hk t it L tL).2.mpr (by omega)
      · rw [(hk L tL t it).2.mpr (by omega)]
    · rw [if_neg c1] at eo
      have c2 : Z L ≠ Z H := fun z => c1 (eqL.mpr z)
      by_cases c3 : lessT L H = true
      · rw [if_pos c3] at eo
        subst eo
        have c4 := ltL.mp c3
        refine ⟨fun t => ?_, List.pairwise_cons.mpr ⟨fun b hb => by rw [List.mem_singleton.mp hb]; exact c3, List.pairwise_singleton _ _⟩, fun a b e t => ?_, fun t it c d hh => absurd hh (by simp)⟩
        · rw [mem t]
          simp only [List.mem_cons, List.not_mem_nil, or_false]
          constructor
          · rintro (e | e) <;> subst e
            · exact ⟨tL, by omega⟩
            · exact ⟨tH, by omega⟩
          · rintro ⟨it, c⟩
            rw [(hk t it L tL).2, (hk t it H tH).2]
            omega
        · injection e with e1 e2
          injection e2 with e2 _
          subst e1
          subst e2
          unfold Btw
          omega
      · rw [if_neg c3] at eo
        subst eo
        have c4 : ¬ Z L < Z H := fun z => c3 (ltL.mpr z)
        refine ⟨fun t => ?_, List.Pairwise.nil, fun a b e => by simp at e, fun t it c d _ => by omega⟩
        rw [mem t]
        constructor
        · intro z
          exact absurd z List.not_mem_nil
        · rintro ⟨it, c⟩
          omega
  have lh : ∀ {a b : Tr}, a ∈ ts → b ∈ ts → a ≠ b → loT a b ∈ ts ∧ hiT a b ∈ ts ∧ Z (loT a b) < Z (hiT a b) ∧ (∀ t, t ∈ [a, b] ↔ t ∈ [loT a b, hiT a b]) ∧ (∀ t, Btw Z a b t ↔ Z (loT a b) ≤ Z t ∧ Z t ≤ Z (hiT a b)) := by
    intro a b ia ib ne
    unfold loT hiT Btw
    have k1 := (hk b ib a ia).1
    have k2 : Z a ≠ Z b := fun z => ne ((hk a ia b ib).2.mpr z)
    split
    · rename_i c
      have := k1.mp c
      refine ⟨ib, ia, this, fun t => ?_, fun t => by omega⟩
      simp only [List.mem_cons, List.not_mem_nil, or_false]
      exact or_comm
    · rename_i c
      have : ¬ Z b < Z a := fun z => c (k1.mpr z)
      exact ⟨ia, ib, by omega, fun t => Iff.rfl, fun t => by omega⟩
  obtain ⟨a1, a2, a3, a4, a5⟩ := lh hp hq pq
  obtain ⟨b1, b2, b3, b4, b5⟩ := lh hr hs rs
  obtain ⟨g1, g2, g3, g4⟩ := key _ _ _ _ a1 a2 b1 b2 a3 b3 _ _ rfl rfl _ rfl
  refine ⟨fun t => ?_, g2, fun a b e t => ?_, fun t it c d hh => ?_⟩
  · rw [a5, b5, a4, b4]
    exact g1 t
  · rw [a5, b5]
    exact g3 a b e t
  · exact g4 t it ((a5 t).mp c) ((b5 t).mp d) hh
end LB
namespace LB
open PySem PySem.Spec PyProof.Rows L2 DL
/-- three places on one line -/
theorem line3 {n : Nat} {p q a b c : Tr} (hp : p.Lo n) (hq : q.Lo n) (ne : p ≠ q) (ha : det p q a = 0) (hb : det p q b = 0) (hc : det p q c = 0) : det a b c = 0 := by
  have hA : (crT p q).x * a.x + (crT p q).y * a.y + (crT p q).w * a.w = 0 := by rw [← ha]; exact al_det (p := p) (q := q) (r := a)
  have hB : (crT p q).x * b.x + (crT p q).y * b.y + (crT p q).w * b.w = 0 := by rw [← hb]; exact al_det (p := p) (q := q) (r := b)
  have hC : (crT p q).x * c.x + (crT p q).y * c.y + (crT p q).w * c.w = 0 := by rw [← hc]; exact al_det (p := p) (q := q) (r := c)
  have e1 : (crT p q).x * det a b c = 0 := by
    generalize crT p q = L at *
    obtain ⟨lx, ly, lw⟩ := L
    unfold det
    simp only [] at *
    have : lx * (a.x * (b.y * c.w - c.y * b.w) - a.y * (b.x * c.w - c.x * b.w) + a.w * (b.x * c.y - c.x * b.y)) = (lx * a.x + ly * a.y + lw * a.w) * (b.y * c.w - c.y * b.w) - (lx * b.x + ly * b.y + lw * b.w) * (a.y * c.w - c.y * a.w) + (lx * c.x + ly * c.y + lw * c.w) * (a.y * b.w - b.y * a.w) := by grind
    rw [this, hA, hB, hC]
    omega
  have e2 : (crT p q).y * det a b c = 0 := by
    generalize crT p q = L at *
    obtain ⟨lx, ly, lw⟩ := L
    unfold det
    simp only [] at *
    have : ly * (a.x * (b.y * c.w - c.y * b.w) - a.y * (b.x * c.w - c.x * b.w) + a.w * (b.x * c.y - c.x * b.y)) = (lx * b.x + ly * b.y + lw * b.w) * (a.x * c.w - c.x * a.w) - (lx * a.x + ly * a.y + lw * a.w) * (b.x * c.w - c.x * b.w) - (lx * c.x + ly * c.y + lw * c.w) * (a.x * b.w - b.x * a.w) := by grind
    rw [this, hA, hB, hC]
    omega
  rcases Int.mul_eq_zero.mp e1 with z | z
  · rcases Int.mul_eq_zero.mp e2 with y | y
    · exfalso
      refine ne (low3 hp hq ?_ ?_)
      · have : p.w * q.x - p.x * q.w = 0 := y
        have e : q.x * p.w = p.w * q.x := Int.mul_comm _ _
        omega
      · have : p.y * q.w - p.w * q.y = 0 := z
        have e : q.y * p.w = p.w * q.y := Int.mul_comm _ _
        omega
    · exact y
  · exact z
theorem meet_asc {p q r s : Tr} {out : List Tr} (h : MeetR p q r s out) : out.Pairwise (fun a b => lessT a b = true) := by
  unfold MeetR at h
  split at h
  · exact h.2
  · split at h
    · rw [h]; exact List.Pairwise.nil
    · rw [h]; exact List.pairwise_singleton _ _
/-- on one line: the two readings are one -/
theorem meet_over {n : Nat} {p q r s : Tr} (hp : p.Lo n) (hq : q.Lo n) (hr : r.Lo n) (hs : s.Lo n) (pq : p ≠ q) (rs : r ≠ s) (c : det p q r = 0 ∧ det p q s = 0) {out : List Tr} (h : MeetR p q r s out) : out = overT p q r s := by
  unfold MeetR at h
  rw [if_pos c] at h
  obtain ⟨h1, h2⟩ := h
  obtain ⟨Z, hk⟩ := zkey [p, q, r, s] (n := n) (by
    intro t ht
    simp only [List.mem_cons, List.not_mem_nil, or_false] at ht
    rcases ht with e | e | e | e <;> subst e <;> assumption)
  have ip : p ∈ [p, q, r, s] := by simp
  have iq : q ∈ [p, q, r, s] := by simp
  have ir : r ∈ [p, q, r, s] := by simp
  have is : s ∈ [p, q, r, s] := by simp
  obtain ⟨m1, m2, _, _⟩ := over_mem hk ip iq ir is pq rs
  have d1 : det r s p = 0 := by
    have := both_zero (p := r) (q := s) hp hq pq c.1 c.2
    exact this.1
  have d2 : det r s q = 0 := by
    have := both_zero (p := r) (q := s) hp hq pq c.1 c.2
    exact this.2
  have hw : ∀ t ∈ [p, q, r, s], 0 < t.w := by
    intro t ht
    simp only [List.mem_cons, List.not_mem_nil, or_false] at ht
    rcases ht with e | e | e | e <;> subst e
    · exact hp.ok.hw
    · exact hq.ok.hw
    · exact hr.ok.hw
    · exact hs.ok.hw
  refine asc_one _ _ ?_ h2 m2 fun t => ?_
  · intro t ht
    rcases (h1 t).mp ht with ⟨z, _⟩ | ⟨z, _⟩
    · refine hw t ?_
      simp only [List.mem_cons, List.not_mem_nil, or_false] at z ⊢
      rcases z with z | z
      · exact .inl z
      · exact .inr (.inl z)
    · refine hw t ?_
      simp only [List.mem_cons, List.not_mem_nil, or_false] at z ⊢
      rcases z with z | z
      · exact .inr (.inr (.inl z))
      · exact .inr (.inr (.inr z))
  · rw [h1, m1]
    refine or_congr (and_congr_right fun z => ?_) (and_congr_right fun z => ?_)
    · simp only [List.mem_cons, List.not_mem_nil, or_false] at z
      rcases z with z | z <;> subst z
      · rw [on_btw hk ir is ip]
        exact ⟨fun y => y.2, fun y => ⟨d1, y⟩⟩
      · rw [on_btw hk ir is iq]
        exact ⟨fun y => y.2, fun y => ⟨d2, y⟩⟩
    · simp only [List.mem_cons, List.not_mem_nil, or_false] at z
      rcases z with z | z <;> subst z
      · rw [on_btw hk ip iq ir]
        exact ⟨fun y => y.2, fun y => ⟨c.1, y⟩⟩
      · rw [on_btw hk ip iq is]
        exact ⟨fun y => y.2, fun y => ⟨c.2, y⟩⟩
theorem cross_told {p q r s P Q R S : Tr} (hp : 0 < p.w) (hq : 0 < q.w) (hr : 0 < r.w) (hs : 0 < s.w) (hP : 0 < P.w) (hQ : 0 < Q.w) (hR : 0 < R.w) (hS : 0 < S.w)
    (ep : P.w * p.x = p.w * P.x ∧ P.w * p.y = p.w * P.y) (eq_ : Q.w * q.x = q.w * Q.x ∧ Q.w * q.y = q.w * Q.y) (er : R.w * r.x = r.w * R.x ∧ R.w * r.y = r.w * R.y) (es : S.w * s.x = s.w * S.x ∧ S.w * s.y = s.w * S.y)
    (w0 : (crT (crT p q) (crT r s)).w ≠ 0) (W0 : det R S P * Q.w - det R S Q * P.w ≠ 0) : unscP (crT (crT p q) (crT r s)) = toldP (crossS P Q R S) := by
  obtain ⟨u1, u2, u3⟩ := placeS_rel (x := det R S P * Q.x - det R S Q * P.x) (y := det R S P * Q.y - det R S Q * P.y) W0
  have k1 := det_s er es ep
  have k2 := det_s er es eq_
  have pos1 : 0 < R.w * S.w * P.w * Q.w := Int.mul_pos (Int.mul_pos (Int.mul_pos hR hS) hP) hQ
  have pos2 : 0 < r.w * s.w * p.w * q.w := Int.mul_pos (Int.mul_pos (Int.mul_pos hr hs) hp) hq
  rw [cr_cr] at w0 ⊢
  unfold crossS
  generalize det r s p = a at *
  generalize det r s q = b at *
  generalize det R S P = A at *
  generalize det R S Q = B at *
  have cx : R.w * S.w * P.w * Q.w * (a * q.x - b * p.x) = r.w * s.w * p.w * q.w * (A * Q.x - B * P.x) := by
    have : R.w * S.w * P.w * Q.w * (a * q.x - b * p.x) = (R.w * S.w * P.w * a) * (Q.w * q.x) - (R.w * S.w * Q.w * b) * (P.w * p.x) := by grind
    rw [this, k1, k2, eq_.1, ep.1]
    grind
  have cy : R.w * S.w * P.w * Q.w * (a * q.y - b * p.y) = r.w * s.w * p.w * q.w * (A * Q.y - B * P.y) := by
    have : R.w * S.w * P.w * Q.w * (a * q.y - b * p.y) = (R.w * S.w * P.w * a) * (Q.w * q.y) - (R.w * S.w * Q.w * b) * (P.w * p.y) := by grind
    rw [this, k1, k2, eq_.2, ep.2]
    grind
  have cw : R.w * S.w * P.w * Q.w * (a * q.w - b * p.w) = r.w * s.w * p.w * q.w * (A * Q.w - B * P.w) := by
    have : R.w * S.w * P.w * Q.w * (a * q.w - b * p.w) = (R.w * S.w * P.w * a) * (Q.w * q.w) - (R.w * S.w * Q.w * b) * (P.w * p.w) := by grind
    rw [this, k1, k2]
    grind
  generalize placeS (A * Q.x - B * P.x) (A * Q.y - B * P.y) (A * Q.w - B * P.w) = u at *
  generalize A * Q.x - B * P.x = X at *
  generalize A * Q.y - B * P.y = Y at *
  generalize A * Q.w - B * P.w = W at *
  refine unsc_told w0 u1 ?_ ?_
  · show (a * q.x - b * p.x) * u.w = u.x * (a * q.w - b * p.w)
    generalize a * q.x - b * p.x = x at *
    generalize a * q.w - b * p.w = w at *
    refine Int.eq_of_mul_eq_mul_left (a := R.w * S.w * P.w * Q.w * W) (Int.mul_ne_zero (by omega) W0) ?_
    generalize R.w * S.w * P.w * Q.w = K at *
    generalize r.w * s.w * p.w * q.w = k at *
    have : K * W * (x * u.w) = (K * x) * W * u.w := by grind
    rw [this, cx]
    have : K * W * (u.x * w) = (K * w) * (u.x * W) := by grind
    rw [this, cw, u2]
    grind
  · show (a * q.y - b * p.y) * u.w = u.y * (a * q.w - b * p.w)
    generalize a * q.y - b * p.y = x at *
    generalize a * q.w - b * p.w = w at *
    refine Int.eq_of_mul_eq_mul_left (a := R.w * S.w * P.w * Q.w * W) (Int.mul_ne_zero (by omega) W0) ?_
    generalize R.w * S.w * P.w * Q.w = K at *
    generalize r.w * s.w * p.w * q.w = k at *
    have : K * W * (x * u.w) = (K * x) * W * u.w := by grind
    rw [this, cy]
    have : K * W * (u.y * w) = (K * w) * (u.y * W) := by grind
    rw [this, cw, u3]
    grind
theorem map_same {α : Type} {f : α → α} : ∀ {l : List α}, (∀ x ∈ l, f x = x) → l.map f = l
  | [], _ => rfl
  | a :: l, h => by rw [List.map_cons, h a List.mem_cons_self, map_same (fun x hx => h x (List.mem_cons_of_mem _ hx))]
theorem sc_w {p q r s : Pt} (hp : p.Ok) (hq : q.Ok) (hr : r.Ok) (hs : s.Ok) (rs : r ≠ s) (h0 : ¬ (sideP p q r = 0 ∧ sideP p q s = 0)) (h1 : ¬ 0 < sideP r s p * sideP r s q) :
    (crT (crT (scT p) (scT q)) (crT (scT r) (scT s))).w ≠ 0 := by
  rw [side_det, side_det, sgn_zero, sgn_zero] at h0
  rw [side_det, side_det, sgn_mul] at h1
  rw [cr_cr]
  exact cross_w' hp.rel.hw hq.rel.hw hr.rel.hw hs.rel.hw (rel_ne hr hs hr.rel hs.rel rs) h0 h1
theorem ok_lo {p : Pt} (hp : p.Ok) : (ownT p).Lo 3200 := own_lo hp.hb hp.hd (B_mul hp.ba hp.bd (by decide)) (B_mul hp.bc hp.bb (by decide)) (B_mul hp.bb hp.bd (by decide))
theorem meet_told {p q r s : Pt} (hp : p.Ok) (hq : q.Ok) (hr : r.Ok) (hs : s.Ok) (pq : p ≠ q) (rs : r ≠ s) {out : List Tr} (h : MeetR (ownT p) (ownT q) (ownT r) (ownT s) out) : meetP p q r s = out.map toldP := by
  have Rp := rel_own hp.hb hp.hd
  have Rq := rel_own hq.hb hq.hd
  have Rr := rel_own hr.hb hr.hd
  have Rs := rel_own hs.hb hs.hd
  have PQ : ownT p ≠ ownT q := fun z => pq ((own_inj hp hq).mp z)
  have RS : ownT r ≠ ownT s := fun z => rs ((own_inj hr hs).mp z)
  have s1 := side_rel hp hq hr Rp Rq Rr
  have s2 := side_rel hp hq hs Rp Rq Rs
  have s3 := side_rel hr hs hp Rr Rs Rp
  have s4 := side_rel hr hs hq Rr Rs Rq
  unfold meetP
  by_cases c : det (ownT p) (ownT q) (ownT r) = 0 ∧ det (ownT p) (ownT q) (ownT s) = 0
  · have c' : sideP p q r = 0 ∧ sideP p q s = 0 := by rw [s1, s2, sgn_zero, sgn_zero]; exact c
    rw [if_pos c', meet_over (ok_lo hp) (ok_lo hq) (ok_lo hr) (ok_lo hs) PQ RS c h, ← (over_own hp hq hr hs).1, List.map_map]
    refine (map_same fun x hx => ?_).symm
    have ox := (over_own hp hq hr hs).2 x hx
    exact told_rel ox (rel_own ox.hb ox.hd)
  · have c' : ¬ (sideP p q r = 0 ∧ sideP p q s = 0) := by rw [s1, s2, sgn_zero, sgn_zero]; exact c
    rw [if_neg c']
    unfold MeetR at h
    rw [if_neg c] at h
    have e : (0 < sideP p q r * sideP p q s ∨ 0 < sideP r s p * sideP r s q) ↔ (0 < det (ownT r) (ownT s) (ownT p) * det (ownT r) (ownT s) (ownT q) ∨ 0 < det (ownT p) (ownT q) (ownT r) * det (ownT p) (ownT q) (ownT s)) := by
      rw [s1, s2, s3, s4, sgn_mul, sgn_mul]
      exact or_comm
    by_cases d : (0 < sideP p q r * sideP p q s ∨ 0 < sideP r s p * sideP r s q)
    · rw [if_pos d]
      rw [if_pos (e.mp d)] at h
      rw [h]
      rfl
    · rw [if_neg d]
      rw [if_neg (fun z => d (e.mpr z))] at h
      rw [h]
      show _ = [toldP (crossS (ownT p) (ownT q) (ownT r) (ownT s))]
      congr 1
      refine cross_told hp.rel.hw hq.rel.hw hr.rel.hw hs.rel.hw Rp.hw Rq.hw Rr.hw Rs.hw (rel_same hp.rel Rp) (rel_same hq.rel Rq) (rel_same hr.rel Rr) (rel_same hs.rel Rs) (sc_w hp hq hr hs rs c' (fun z => d (.inr z))) ?_
      exact cross_w (ok_lo hp) (ok_lo hq) (ok_lo hr) (ok_lo hs) RS c (fun z => d (e.mpr (.inl z)))
end LB
namespace LB
open PySem PySem.Spec PyProof.Rows L2 DL
theorem conv {a b c d x y : Int} (h : (c - a) * (y - b) = (d - b) * (x - a)) (ne : ¬ (a = c ∧ b = d)) (lo : ¬ (x < a ∨ x = a ∧ y < b)) (hi : ¬ (c < x ∨ c = x ∧ d < y)) :
    ∃ l m : Int, 0 ≤ l ∧ 0 ≤ m ∧ 0 < l + m ∧ (l + m) * x = l * a + m * c ∧ (l + m) * y = l * b + m * d := by
  by_cases e : a = c
  · subst e
    refine ⟨d - y, y - b, by omega, by omega, by omega, ?_, ?_⟩
    · have : x = a := by omega
      subst this
      grind
    · grind
  · refine ⟨c - x, x - a, by omega, by omega, by omega, ?_, ?_⟩ <;> grind
/-- a place of a segment lies between its ends -/
theorem conv_T {n : Nat} {p q t l : Tr} (hp : p.Lo n) (hq : q.Lo n) (ht : t.Lo n) (ne : p ≠ q) (h : onT p q t = true) (z : l.x * t.x + l.y * t.y + l.w * t.w = 0) :
    ¬ 0 < (l.x * p.x + l.y * p.y + l.w * p.w) * (l.x * q.x + l.y * q.y + l.w * q.w) := by
  obtain ⟨_, dv, b0⟩ := bot_dvd [p, q, t] 1 (by decide) (fun u hu => by
    simp only [List.mem_cons, List.not_mem_nil, or_false] at hu
    rcases hu with e | e | e <;> subst e
    · exact hp.ok.hw
    · exact hq.ok.hw
    · exact ht.ok.hw)
  generalize botT [p, q, t] 1 = b at *
  have dp := dv p (by simp)
  have dq := dv q (by simp)
  have dt := dv t (by simp)
  have k0 := less_key b0 hp.ok.hw hq.ok.hw dp dq
  have k1 := less_key b0 ht.ok.hw hp.ok.hw dt dp
  have k2 := less_key b0 hq.ok.hw ht.ok.hw dq dt
  have k3 := less_key b0 ht.ok.hw hq.ok.hw dt dq
  have k4 := less_key b0 hp.ok.hw ht.ok.hw dp dt
  have k5 := less_tri hp hq ne
  have k6 := less_key b0 hq.ok.hw hp.ok.hw dq dp
  have ep := cancel dp
  have eq_ := cancel dq
  have et := cancel dt
  have pp := div_pos b0 hp.ok.hw dp
  have pq := div_pos b0 hq.ok.hw dq
  have pt := div_pos b0 ht.ok.hw dt
  have hd : det p q t = 0 ∧ (if lessT p q = true then lessT t p = false ∧ lessT q t = false else lessT t q = false ∧ lessT p t = false) := by
    unfold onT at h
    by_cases d : det p q t = 0
    · rw [if_neg (fun z => z d)] at h
      refine ⟨d, ?_⟩
      split
      · rename_i c
        rw [if_pos c] at h
        simpa using h
      · rename_i c
        rw [if_neg c] at h
        simpa using h
    · rw [if_pos d] at h
      cases h
  obtain ⟨d0, hb⟩ := hd
  have lin : ∀ u : Tr, u.w * (b / u.w) = b → (b / u.w) * (l.x * u.x + l.y * u.y + l.w * u.w) = l.x * (u.x * (b / u.w)) + l.y * (u.y * (b / u.w)) + l.w * b := by
    intro u hu
    generalize b / u.w = k at *
    subst hu
    grind
  have lp := lin p ep
  have lq := lin q eq_
  have lt := lin t et
  have dd : (q.x * (b / q.w) - p.x * (b / p.w)) * (t.y * (b / t.w) - p.y * (b / p.w)) = (q.y * (b / q.w) - p.y * (b / p.w)) * (t.x * (b / t.w) - p.x * (b / p.w)) := by
    unfold det at d0
    generalize b / p.w = kp at *
    generalize b / q.w = kq at *
    generalize b / t.w = kt at *
    refine Int.eq_of_mul_eq_mul_left (a := b) (by omega) ?_
    have : kp * kq * kt * (p.x * (q.y * t.w - t.y * q.w) - p.y * (q.x * t.w - t.x * q.w) + p.w * (q.x * t.y - t.x * q.y)) = 0 := by rw [d0]; omega
    grind
  rw [z, Int.mul_zero] at lt
  generalize l.x * p.x + l.y * p.y + l.w * p.w = vp at *
  generalize l.x * q.x + l.y * q.y + l.w * q.w = vq at *
  generalize p.x * (b / p.w) = a1 at *
  generalize p.y * (b / p.w) = a2 at *
  generalize q.x * (b / q.w) = c1 at *
  generalize q.y * (b / q.w) = c2 at *
  generalize t.x * (b / t.w) = x at *
  generalize t.y * (b / t.w) = y at *
  generalize b / p.w = kp at *
  generalize b / q.w = kq at *
  have fin : ∃ u v : Int, 0 ≤ u ∧ 0 ≤ v ∧ 0 < u + v ∧ (u + v) * x = u * a1 + v * c1 ∧ (u + v) * y = u * a2 + v * c2 := by
    by_cases c : lessT p q = true
    · rw [if_pos c] at hb
      have n1 : ¬ lessT t p = true := by rw [hb.1]; decide
      have n2 : ¬ lessT q t = true := by rw [hb.2]; decide
      rw [k1] at n1
      rw [k2] at n2
      have := k0.mp c
      exact conv dd (by omega) n1 n2
    · rw [if_neg c] at hb
      have n1 : ¬ lessT t q = true := by rw [hb.1]; decide
      have n2 : ¬ lessT p t = true := by rw [hb.2]; decide
      rw [k3] at n1
      rw [k4] at n2
      have := k6.mp (k5.resolve_left c)
      obtain ⟨u, v, h1, h2, h3, h4, h5⟩ := conv (a := c1) (b := c2) (c := a1) (d := a2) (x := x) (y := y) (by grind) (by omega) n1 n2
      exact ⟨v, u, h2, h1, by omega, by rw [Int.add_comm v u, h4, Int.add_comm], by rw [Int.add_comm v u, h5, Int.add_comm]⟩
  obtain ⟨u, v, u0, v0, uv, fx, fy⟩ := fin
  have sum : u * (kp * vp) + v * (kq * vq) = 0 := by
    rw [lp, lq]
    have : u * (l.x * a1 + l.y * a2 + l.w * b) + v * (l.x * c1 + l.y * c2 + l.w * b) = l.x * (u * a1 + v * c1) + l.y * (u * a2 + v * c2) + l.w * ((u + v) * b) := by grind
    rw [this, ← fx, ← fy]
    have : l.x * ((u + v) * x) + l.y * ((u + v) * y) + l.w * ((u + v) * b) = (u + v) * (l.x * x + l.y * y + l.w * b) := by grind
    rw [this, ← lt, Int.mul_zero]
  intro g
  rcases Int.lt_trichotomy vp 0 with s | s | s
  · have s2 : vq < 0 := by
      rcases Int.lt_or_le vq 0 with y' | y'
      · exact y'
      · have := Int.mul_nonpos_of_nonpos_of_nonneg (Int.le_of_lt s) y'
        omega
    have g1 := Int.mul_neg_of_pos_of_neg pp s
    have g2 := Int.mul_neg_of_pos_of_neg pq s2
    rcases Int.lt_or_le 0 u with y' | y'
    · have := Int.mul_neg_of_pos_of_neg y' g1
      have := Int.mul_nonpos_of_nonneg_of_nonpos v0 (Int.le_of_lt g2)
      omega
    · have e0 : u = 0 := by omega
      subst e0
      have := Int.mul_neg_of_pos_of_neg (show 0 < v by omega) g2
      omega
  · subst s
    omega
  · have s2 : 0 < vq := by
      rcases Int.lt_or_le 0 vq with y' | y'
      · exact y'
      · have := Int.mul_nonpos_of_nonneg_of_nonpos (Int.le_of_lt s) y'
        omega
    have g1 := Int.mul_pos pp s
    have g2 := Int.mul_pos pq s2
    rcases Int.lt_or_le 0 u with y' | y'
    · have := Int.mul_pos y' g1
      have := Int.mul_nonneg v0 (Int.le_of_lt g2)
      omega
    · have e0 : u = 0 := by omega
      subst e0
      have := Int.mul_pos (show 0 < v by omega) g2
      omega
theorem on_det {a b t : Tr} (h : onT a b t = true) : det a b t = 0 := by
  unfold onT at h
  by_cases d : det a b t = 0
  · exact d
  · rw [if_pos d] at h
    cases h
theorem meet_both {n : Nat} {p q r s t a b : Tr} (hp : p.Lo n) (hq : q.Lo n) (hr : r.Lo n) (hs : s.Lo n) (ht : t.Lo n) (pq : p ≠ q) (rs : r ≠ s) (h : MeetR p q r s [a, b]) : onT a b t = (onT p q t && onT r s t) := by
  by_cases c : det p q r = 0 ∧ det p q s = 0
  · have e := meet_over hp hq hr hs pq rs c h
    obtain ⟨Z, hk⟩ := zkey [p, q, r, s, t] (n := n) (by
      intro t ht
      simp only [List.mem_cons, List.not_mem_nil, or_false] at ht
      rcases ht with e | e | e | e | e <;> subst e <;> assumption)
    have ip : p ∈ [p, q, r, s, t] := by simp
    have iq : q ∈ [p, q, r, s, t] := by simp
    have ir : r ∈ [p, q, r, s, t] := by simp
    have is : s ∈ [p, q, r, s, t] := by simp
    have it : t ∈ [p, q, r, s, t] := by simp
    obtain ⟨m1, m2, m3, m4⟩ := over_mem hk ip iq ir is pq rs
    have all : ∀ x ∈ [p, q, r, s], x.Lo n ∧ det p q x = 0 ∧ x ∈ [p, q, r, s, t] := by
      intro x hx
      simp only [List.mem_cons, List.not_mem_nil, or_false] at hx
      rcases hx with e | e | e | e <;> subst e
      · exact ⟨hp, by unfold det; grind, ip⟩
      · exact ⟨hq, by unfold det; grind, iq⟩
      · exact ⟨hr, c.1, ir⟩
      · exact ⟨hs, c.2, is⟩
    have sub : ∀ x, x ∈ overT p q r s → x ∈ [p, q, r, s] := by
      intro x hx
      rcases (m1 x).mp hx with ⟨z, _⟩ | ⟨z, _⟩
      · simp only [List.mem_cons, List.not_mem_nil, or_false] at z ⊢
        rcases z with z | z
        · exact .inl z
        · exact .inr (.inl z)
      · simp only [List.mem_cons, List.not_mem_nil, or_false] at z ⊢
        rcases z with z | z
        · exact .inr (.inr (.inl z))
        · exact .inr (.inr (.inr z))
    obtain ⟨la, da, ia⟩ := all a (sub a (by rw [← e]; simp))
    obtain ⟨lb, db, ib⟩ := all b (sub b (by rw [← e]; simp))
    have ab : a ≠ b := by
      intro z
      rw [← e, List.pairwise_cons] at m2
      have := m2.1 b List.mem_cons_self
      rw [z, less_irr] at this
      cases this
    have dets : det a b t = 0 ↔ det p q t = 0 := by
      have eqs : ∀ x, det p q x = 0 → x.Lo n → True := fun _ _ _ => trivial
      constructor
      · intro d
        -- the line of a and b holds p and q
        have g1 := line3 hp hq pq da db (by show det p q p = 0; unfold det; grind)
        have g2 := line3 hp hq pq da db (by show det p q q = 0; unfold det; grind)
        exact line3 la lb ab g1 g2 d
      · intro d
        exact line3 hp hq pq da db d
    have rset : det r s t = 0 ↔ det p q t = 0 := by
      constructor
      · intro d
        have g1 := line3 hp hq pq c.1 c.2 (by show det p q p = 0; unfold det; grind)
        have g2 := line3 hp hq pq c.1 c.2 (by show det p q q = 0; unfold det; grind)
        exact line3 hr hs rs g1 g2 d
      · intro d
        exact line3 hp hq pq c.1 c.2 d
    rw [Bool.eq_iff_iff, Bool.and_eq_true, on_btw hk ia ib it, on_btw hk ip iq it, on_btw hk ir is it, dets, rset, m3 a b e.symm t]
    constructor
    · rintro ⟨x, y, z⟩
      exact ⟨⟨x, y⟩, x, z⟩
    · rintro ⟨⟨x, y⟩, _, z⟩
      exact ⟨x, y, z⟩
  · exfalso
    unfold MeetR at h
    rw [if_neg c] at h
    split at h
    · cases h
    · cases h
theorem meet_spot {n : Nat} {p q r s t : Tr} {out : List Tr} (hp : p.Lo n) (hq : q.Lo n) (hr : r.Lo n) (hs : s.Lo n) (ht : t.Lo n) (pq : p ≠ q) (rs : r ≠ s) (h : MeetR p q r s out) (hl : out.length < 2) (h1 : onT p q t = true) (h2 : onT r s t = true) : ∃ o, out = [o] ∧ 0 < o.w ∧ o.x * t.w = t.x * o.w ∧ o.y * t.w = t.y * o.w := by
  by_cases c : det p q r = 0 ∧ det p q s = 0
  · have e := meet_over hp hq hr hs pq rs c h
    obtain ⟨Z, hk⟩ := zkey [p, q, r, s, t] (n := n) (by
      intro t ht
      simp only [List.mem_cons, List.not_mem_nil, or_false] at ht
      rcases ht with e | e | e | e | e <;> subst e <;> assumption)
    have ip : p ∈ [p, q, r, s, t] := by simp
    have iq : q ∈ [p, q, r, s, t] := by simp
    have ir : r ∈ [p, q, r, s, t] := by simp
    have is : s ∈ [p, q, r, s, t] := by simp
    have it : t ∈ [p, q, r, s, t] := by simp
    obtain ⟨m1, m2, m3, m4⟩ := over_mem hk ip iq ir is pq rs
    rw [on_btw hk ip iq it] at h1
    rw [on_btw hk ir is it] at h2
    refine ⟨t, ?_, ht.ok.hw, rfl, rfl⟩
    rw [e] at hl ⊢
    exact m4 t it h1.2 h2.2 hl
  · have d1 := on_det h1
    have d2 := on_det h2
    have n1 : ¬ 0 < det r s p * det r s q := by
      have := conv_T (l := crT r s) hp hq ht pq h1 (by rw [← d2]; exact al_det (p := r) (q := s) (r := t))
      have e1 : (crT r s).x * p.x + (crT r s).y * p.y + (crT r s).w * p.w = det r s p := al_det (p := r) (q := s) (r := p)
      have e2 : (crT r s).x * q.x + (crT r s).y * q.y + (crT r s).w * q.w = det r s q := al_det (p := r) (q := s) (r := q)
      rwa [e1, e2] at this
    have n2 : ¬ 0 < det p q r * det p q s := by
      have := conv_T (l := crT p q) hr hs ht rs h2 (by rw [← d1]; exact al_det (p := p) (q := q) (r := t))
      have e1 : (crT p q).x * r.x + (crT p q).y * r.y + (crT p q).w * r.w = det p q r := al_det (p := p) (q := q) (r := r)
      have e2 : (crT p q).x * s.x + (crT p q).y * s.y + (crT p q).w * s.w = det p q s := al_det (p := p) (q := q) (r := s)
      rwa [e1, e2] at this
    have W0 := cross_w hp hq hr hs rs c n1
    unfold MeetR at h
    rw [if_neg c, if_neg (fun z => z.elim n1 n2)] at h
    obtain ⟨u1, u2, u3⟩ := placeS_rel (x := det r s p * q.x - det r s q * p.x) (y := det r s p * q.y - det r s q * p.y) W0
    refine ⟨crossS p q r s, h, u1, ?_, ?_⟩
    · unfold crossS
      have k : (det r s p * q.x - det r s q * p.x) * t.w = t.x * (det r s p * q.w - det r s q * p.w) := by
        have : (det r s p * q.x - det r s q * p.x) * t.w - t.x * (det r s p * q.w - det r s q * p.w) = (crT p q).y * det r s t - (crT r s).y * det p q t ∨ (det r s p * q.x - det r s q * p.x) * t.w - t.x * (det r s p * q.w - det r s q * p.w) = (crT r s).y * det p q t - (crT p q).y * det r s t := by
          unfold det crT
          simp only []
          first | (left; grind) | (right; grind)
        rcases this with e | e <;> rw [d1, d2] at e <;> omega
      generalize det r s p * q.x - det r s q * p.x = X at *
      generalize det r s p * q.y - det r s q * p.y = Y at *
      generalize det r s p * q.w - det r s q * p.w = W at *
      refine Int.eq_of_mul_eq_mul_left (a := W) W0 ?_
      generalize placeS X Y W = u at *
      have : W * (u.x * t.w) = (u.x * W) * t.w := by grind
      rw [this, u2]
      grind
    · unfold crossS
      have k : (det r s p * q.y - det r s q * p.y) * t.w = t.y * (det r s p * q.w - det r s q * p.w) := by
        have : (det r s p * q.y - det r s q * p.y) * t.w - t.y * (det r s p * q.w - det r s q * p.w) = (crT r s).x * det p q t - (crT p q).x * det r s t ∨ (det r s p * q.y - det r s q * p.y) * t.w - t.y * (det r s p * q.w - det r s q * p.w) = (crT p q).x * det r s t - (crT r s).x * det p q t := by
          unfold det crT
          simp only []
          first | (left; grind) | (right; grind)
        rcases this with e | e <;> rw [d1, d2] at e <;> omega
      generalize det r s p * q.x - det r s q * p.x = X at *
      generalize det r s p * q.y - det r s q * p.y = Y at *
      generalize det r s p * q.w - det r s q * p.w = W at *
      refine Int.eq_of_mul_eq_mul_left (a := W) W0 ?_
      generalize placeS X Y W = u at *
      have : W * (u.y * t.w) = (u.y * W) * t.w := by grind
      rw [this, u3]
      grind
end LB
namespace LB
open PySem PySem.Spec PyProof.Rows L2 DL
theorem fdiv_neg2 {g x : Int} (h : g ∣ x) : Int.fdiv x (-g) = -x / g := by
  have := fdiv_neg' h
  rwa [Int.zero_sub] at this
theorem r_fraction : ∀ ds st Q, sp_fraction ds st Q → b_fraction { nx := fun _ s' => Q (.d .none) s', rt := Q } (startD N_fraction ds) st := by
  intro ds st Q h
  unfold sp_fraction at h
  split at h
  · rename_i t b
    obtain ⟨h0, h1, h2, q⟩ := h
    walk_at "st"
    unfold b_fraction b_fraction_1 b_fraction_2 b_fraction_3
    walk_at "go"
    have g0 := gc_pos' (a := t) h0
    have gB := gc_B' (a := t) h0 h2
    have gn : B 8000 (-gc t b) := by
      unfold B at *
      rw [Int.natAbs_neg]
      exact gB
    show if b < 0 then CDivF t (-gc t b) ∧ CDivF b (-gc t b) ∧ _ else CDivF t (gc t b) ∧ CDivF b (gc t b) ∧ _
    unfold fracD at q
    by_cases c : b < 0
    · rw [if_neg (by omega)] at q
      rw [if_pos c]
      refine ⟨divF (by omega) gn (by decide) (by decide), divF (by omega) gn (by decide) (by decide), big_ok (by decide), ?_⟩
      have e1 : Int.fdiv t (-gc t b) = -t / gc t b := fdiv_neg2 (gc_dl t b)
      have e2 : Int.fdiv b (-gc t b) = -b / gc t b := fdiv_neg2 (gc_dr t b)
      show Q (.d (.tuple [.int (Int.fdiv t (-gc t b)), .int (Int.fdiv b (-gc t b))])) st
      rw [e1, e2]
      unfold partD at q
      rw [gc_neg] at q
      exact q
    · rw [if_pos (by omega)] at q
      rw [if_neg c]
      refine ⟨divF (by omega) gB (by decide) (by decide), divF (by omega) gB (by decide) (by decide), big_ok (by decide), ?_⟩
      show Q (.d (.tuple [.int (Int.fdiv t (gc t b)), .int (Int.fdiv b (gc t b))])) st
      rw [fdiv_pos' g0, fdiv_pos' g0]
      exact q
  · exact h.elim
theorem r_unscaled : ∀ ds st Q, sp_unscaled ds st Q → b_unscaled { nx := fun _ s' => Q (.d .none) s', rt := Q } (startD N_unscaled ds) st := by
  intro ds st Q h
  unfold sp_unscaled at h
  split at h
  · rename_i x y w
    obtain ⟨h0, h1, h2, h3, q⟩ := h
    walk_at "st"
    unfold b_unscaled b_unscaled_1 b_unscaled_2
    walk_at "go"
    refine ⟨h0, h1, h3, ?_⟩
    refine ⟨h0, h2, h3, big_ok (by decide), ?_⟩
    show Q (.d (.tuple [fracD x w, fracD y w])) st
    unfold unscP at q
    unfold fracD
    by_cases c : 0 < w
    · rw [if_pos c] at q
      rw [if_pos c, if_pos c]
      exact q
    · rw [if_neg c] at q
      rw [if_neg c, if_neg c]
      exact q
  · exact h.elim
theorem r_overlap : ∀ ds st Q, sp_overlap ds st Q → b_overlap { nx := fun _ s' => Q (.d .none) s', rt := Q } (startD N_overlap ds) st := by
  rintro ds st Q ⟨p, q, r, s, rfl, hp, hq, hr, hs, k⟩
  walk_at "st"
  obtain ⟨_, a2, _, a4⟩ := lo_own hp hq
  obtain ⟨_, b2, _, b4⟩ := lo_own hr hs
  have pr : ∀ p q : Pt, PyData.tuple [(loP p q).py, (hiP p q).py] = if ahead q p then .tuple [q.py, p.py] else .tuple [p.py, q.py] := by
    intro p q
    unfold loP hiP
    split <;> rfl
  refine ⟨_, rfl, p, q, rfl, hp, hq, ?_⟩
  rw [← pr p q]
  refine .inl ?_
  unfold overP at k
  simp only [] at k
  generalize loP p q = l at *
  generalize hiP p q = h at *
  unfold b_overlap_2
  walk_at "go"
  refine ⟨r, s, rfl, hr, hs, ?_⟩
  rw [← pr r s]
  generalize loP r s = l' at *
  generalize hiP r s = h' at *
  unfold b_overlap_3 b_overlap_4 b_overlap_5 b_overlap_6
  walk_at "go"
  have fin : ∀ L H : Pt, L.Ok → H.Ok → Q (.d (.tuple ((if L = H then [L] else if ahead L H = true then [L, H] else []).map Pt.py))) st →
      (SeqAt.shaped L.py = true ∧ SeqAt.shaped H.py = true ∧ if PyData.eqv L.py H.py = true then 1 ≤ sizeLine ∧ Q (.d (.tuple [L.py])) st
        else sp_is_ahead [.d L.py, .d H.py] st (asB fun c st1 => if c = true then 2 ≤ sizeLine ∧ Q (.d (.tuple [L.py, H.py])) st1 else 0 ≤ sizeLine ∧ Q (.d (.tuple [])) st1)) := by
    intro L H hL hH k
    refine ⟨pt_sh, pt_sh, ?_⟩
    rw [pt_eqv]
    by_cases c : L = H
    · rw [if_pos (decide_eq_true c)]
      rw [if_pos c] at k
      exact ⟨big_ok (by decide), k⟩
    · rw [if_neg (by simpa using c)]
      rw [if_neg c] at k
      refine ⟨L, H, rfl, hL, hH, ?_⟩
      show if ahead L H = true then _ else _
      cases e : ahead L H with
      | true =>
        rw [e, if_pos rfl] at k
        exact ⟨big_ok (by decide), k⟩
      | false =>
        rw [e, if_neg Bool.false_ne_true] at k
        exact ⟨big_ok (by decide), k⟩
  refine ⟨l, l', rfl, a2, b2, ?_⟩
  show if ahead l l' = true then _ else _
  cases e1 : ahead l l' with
  | true =>
    rw [e1, if_pos rfl] at k
    refine ⟨h', h, rfl, b4, a4, ?_⟩
    show if ahead h' h = true then _ else _
    cases e2 : ahead h' h with
    | true =>
      rw [e2, if_pos rfl] at k
      exact fin _ _ b2 b4 k
    | false =>
      rw [e2, if_neg Bool.false_ne_true] at k
      exact fin _ _ b2 a4 k
  | false =>
    rw [e1, if_neg Bool.false_ne_true] at k
    refine ⟨h', h, rfl, b4, a4, ?_⟩
    show if ahead h' h = true then _ else _
    cases e2 : ahead h' h with
    | true =>
      rw [e2, if_pos rfl] at k
      exact fin _ _ a2 b4 k
    | false =>
      rw [e2, if_neg Bool.false_ne_true] at k
      exact fin _ _ a2 a4 k
theorem scS_B {p : Pt} (h : p.Sm) : B 330 (scT p).x ∧ B 330 (scT p).y ∧ B 220 (scT p).w := by
  have l : B 220 ((Nat.lcm p.b.natAbs p.d.natAbs : Nat) : Int) := by
    unfold B
    rw [Int.natAbs_natCast]
    have h1 := h.bb
    have h2 := h.bd
    unfold B at h1 h2
    have : Nat.lcm p.b.natAbs p.d.natAbs ≤ p.b.natAbs * p.d.natAbs := Nat.div_le_self _ _
    have h3 : p.b.natAbs * p.d.natAbs < 2 ^ 110 * 2 ^ 110 := Nat.mul_lt_mul'' h1 h2
    rw [← Nat.pow_add] at h3
    exact Nat.lt_of_le_of_lt this h3
  exact ⟨B_mul h.ba (B_div l) (by decide), B_mul h.bc (B_div l) (by decide), l⟩
theorem crS_B {m n k : Nat} {p q : Tr} (hp : B m p.x ∧ B m p.y ∧ B m p.w) (hq : B n q.x ∧ B n q.y ∧ B n q.w) (h : m + n + 1 ≤ k) : B k (crT p q).x ∧ B k (crT p q).y ∧ B k (crT p q).w := by
  have s : ∀ {i j i' j' : Int}, B m i → B n j → B m i' → B n j' → B k (i * j - i' * j') := fun a b c d => B_sub (a := m + n) (b := m + n) (B_mul a b (Nat.le_refl _)) (B_mul c d (Nat.le_refl _)) h h
  exact ⟨s hp.2.1 hq.2.2 hp.2.2 hq.2.1, s hp.2.2 hq.1 hp.1 hq.2.2, s hp.1 hq.2.1 hp.2.1 hq.1⟩
theorem sc_ {p : Pt} {st : Sto} {Q : Kd} (h : p.Ok) (q : Q (.d (scT p).py) st) : sp_scaled [.d p.py] st Q := ⟨h.hb, h.hd, h.ba, h.bb, h.bc, h.bd, q⟩
theorem cr_ {p q : Tr} {st : Sto} {Q : Kd} (h : B 8000 p.x ∧ B 8000 p.y ∧ B 8000 p.w) (g : B 8000 q.x ∧ B 8000 q.y ∧ B 8000 q.w) (k : Q (.d (crT p q).py) st) : sp_crossed [.d p.py, .d q.py] st Q := ⟨h, g, k⟩
theorem al_ {p q : Tr} {st : Sto} {Q : Kd} (h : B 20000 p.x ∧ B 20000 p.y ∧ B 20000 p.w) (g : B 20000 q.x ∧ B 20000 q.y ∧ B 20000 q.w) (k : Q (I (alT p q)) st) : sp_along [.d p.py, .d q.py] st Q := ⟨h, g, k⟩
theorem r_meet : ∀ ds st Q, sp_meet ds st Q → b_meet { nx := fun _ s' => Q (.d .none) s', rt := Q } (startD N_meet ds) st := by
  rintro ds st Q ⟨p, q, r, s, rfl, hp, hq, hr, hs, n1, n2, k⟩
  walk_at "st"
  have up : ∀ {a n : Nat}, a ≤ n → ∀ {t : Tr}, B a t.x ∧ B a t.y ∧ B a t.w → B n t.x ∧ B n t.y ∧ B n t.w := fun h _ g => ⟨B_mono g.1 h, B_mono g.2.1 h, B_mono g.2.2 h⟩
  have sB : ∀ {p : Pt}, p.Sm → B 330 (scT p).x ∧ B 330 (scT p).y ∧ B 330 (scT p).w := fun h => ⟨(scS_B h).1, (scS_B h).2.1, B_mono (scS_B h).2.2 (by decide)⟩
  have cB : ∀ {p q : Pt}, p.Sm → q.Sm → B 700 (crT (scT p) (scT q)).x ∧ B 700 (crT (scT p) (scT q)).y ∧ B 700 (crT (scT p) (scT q)).w := fun h g => crS_B (sB h) (sB g) (by decide)
  have cpq := cB hp hq
  have crs := cB hr hs
  have ix : ∀ {i j : Nat} {e : Ed} {xs : List PyData} {x : PyData} {K : Kd}, e[i]? = some (some (.d (.tuple xs))) → xs[j]? = some x → K (.d x) st → dBin rIxD (dVar i) (dC (.int j)) e st K := fun h g k => ⟨_, h, _, atI_nat g, k⟩
  have line : ∀ {i : Nat} {a b : Pt} {e : Ed} {K : Kd}, a.Sm → b.Sm → e[i]? = some (some (.d (.tuple [a.py, b.py]))) → K (.d (crT (scT a) (scT b)).py) st →
      dFn0 sp_crossed (dCons (dFn0 sp_scaled (dCons (dBin rIxD (dVar i) (dC (.int 0))) dNil)) (dCons (dFn0 sp_scaled (dCons (dBin rIxD (dVar i) (dC (.int 1))) dNil)) dNil)) e st K := by
    intro i a b e K ha hb h hK
    simp only [dFn0, dCons, dNil]
    refine ix (j := 0) h rfl ?_
    show sp_scaled [.d a.py] st _
    refine sc_ ha.ok ?_
    refine ix (j := 1) h rfl ?_
    show sp_scaled [.d b.py] st _
    refine sc_ hb.ok ?_
    exact cr_ (up (by decide) (sB ha)) (up (by decide) (sB hb)) hK
  refine line hp hq rfl (.inl ?_)
  refine line hr hs rfl (.inl ?_)
  have side : ∀ (i : Nat) (x : PyData) (a b c d : Pt) (e : Ed) (K : Kd), c.Sm → d.Sm → a.Sm → b.Sm → e.length = 7 → e[i]? = some (some (.d (.tuple [c.py, d.py]))) → i ≠ 6 → ∀ j, j ≠ 6 → e[j]? = some (some (.d (crT (scT a) (scT b)).py)) → K (.d (.list [.int (sideP a b c), .int (sideP a b d)])) st →
      dLcV (dIter (dVar i)) 6 dYes (dFn0 sp_sign (dCons (dFn0 sp_along (dCons (dVar j) (dCons (dFn0 sp_scaled (dCons (dVar 6) dNil)) dNil))) dNil)) e st K := by
    intro i x a b c d e K hc hd ha hb el ei ni j nj ej hK
    refine lcV_map [c, d] (fun t => .d t.py) (fun t => .int (sideP a b t)) none (fun a ds z => nomatch z) (fun R hR => ⟨_, ei, hR⟩) (by show 2 < sizeLine; decide) ?_ hK
    intro z hz K' hK'
    have sz : z.Sm := by
      rcases List.mem_cons.mp hz with rfl | hz
      · exact hc
      · rw [List.mem_singleton.mp hz]
        exact hd
    have at6 : ∀ {x : Option D}, (e.set 6 x)[6]? = some x := List.getElem?_set_self (by omega)
    simp only [dFn0, dCons, dNil]
    refine ⟨_, (List.getElem?_set_ne (Ne.symm nj)).trans ej, _, at6, ?_⟩
    refine sc_ sz.ok ?_
    exact al_ (up (by decide) (cB ha hb)) (up (by decide) (sB sz)) hK'
  refine side 1 .none p q r s _ _ hr hs hp hq rfl rfl (by decide) 2 (by decide) rfl (.inl ?_)
  show b_meet_4 _ [some (.d (.tuple [p.py, q.py])), some (.d (.tuple [r.py, s.py])), some (.d (crT (scT p) (scT q)).py), some (.d (crT (scT r) (scT s)).py), some (.d (.list [.int (sideP p q r), .int (sideP p q s)])), none, none] st
  have sh2 : ∀ a b : Int, SeqAt.shaped (.list [.int a, .int b]) = true := fun a b => sh_list (by
    intro x hx
    simp only [List.mem_cons, List.not_mem_nil, or_false] at hx
    rcases hx with rfl | rfl <;> exact ⟨rfl, by simp [PyData.depth]⟩)
  have ev : PyData.eqv (.list [.int (sideP p q r), .int (sideP p q s)]) (.list [.int 0, .int 0]) = decide (sideP p q r = 0 ∧ sideP p q s = 0) := by
    rw [Bool.eq_iff_iff]
    simp [PyData.eqv, PyData.eqvAll]
  refine ⟨_, rfl, big_ok (by show 2 ≤ 3000; decide), sh2 _ _, sh2 _ _, ?_⟩
  rw [ev]
  unfold meetP at k
  show if decide (sideP p q r = 0 ∧ sideP p q s = 0) = true then _ else _
  by_cases c : sideP p q r = 0 ∧ sideP p q s = 0
  · rw [if_pos (decide_eq_true c)]
    rw [if_pos c] at k
    exact ⟨_, rfl, _, rfl, p, q, r, s, rfl, hp.ok, hq.ok, hr.ok, hs.ok, .inl k⟩
  · rw [if_neg (by simpa using c)]
    rw [if_neg c] at k
    refine side 0 .none r s p q _ _ hp hq hr hs rfl rfl (by decide) 3 (by decide) rfl (.inl ?_)
    unfold b_meet_6 b_meet_7
    walk_at "go"
    have sg : ∀ a b c : Pt, B 2 (sideP a b c) := fun a b c => by
      unfold sideP sgn
      split
      · exact by show 0 < 4; decide
      · split
        · exact by show 1 < 4; decide
        · exact by show 1 < 4; decide
    refine ⟨mulW' (sg _ _ _) (sg _ _ _), ?_⟩
    by_cases h1 : 0 < sideP p q r * sideP p q s
    · rw [if_pos h1]
      rw [if_pos (.inl h1)] at k
      exact ⟨big_ok (by decide), k⟩
    · rw [if_neg h1]
      refine ⟨mulW' (sg _ _ _) (sg _ _ _), ?_⟩
      by_cases h2 : 0 < sideP r s p * sideP r s q
      · rw [if_pos h2]
        rw [if_pos (.inr h2)] at k
        exact ⟨big_ok (by decide), k⟩
      · rw [if_neg h2]
        rw [if_neg (by rintro (h | h); exact h1 h; exact h2 h)] at k
        have w0 := sc_w hp.ok hq.ok hr.ok hs.ok n2 c h2
        have cc := crS_B (k := 1500) cpq crs (by decide)
        refine cr_ (up (by decide) cpq) (up (by decide) crs) ?_
        exact ⟨w0, B_mono cc.1 (by decide), B_mono cc.2.1 (by decide), B_mono cc.2.2 (by decide), big_ok (by decide), k⟩
theorem r_common : ∀ ds st Q, sp_common ds st Q → b_common { nx := fun _ s' => Q (.d .none) s', rt := Q } (startD N_common ds) st := by
  rintro ds st Q ⟨p, q, r, s, rfl, hp, hq, hr, hs, n1, n2, k⟩
  walk_at "st"
  refine ⟨_, rfl, p, q, rfl, hp.ok, hq.ok, n1, _, rfl, r, s, rfl, hr.ok, hs.ok, n2, ?_⟩
  exact ⟨_, rfl, _, rfl, p, q, r, s, rfl, hp, hq, hr, hs, n1, n2, .inl k⟩
end LB
namespace LB
open PySem PySem.Spec PyProof.Rows L2 DL
def okR (x : PyData) : Prop := x.hasDict = false ∧ x.showable = true ∧ x.shown.length ≤ sizeLine ∧ x.depth ≤ 64
/-- a part of a bigger thing that may be shown -/
structure Sh (k d : Nat) (x : PyData) : Prop where
  nd : x.hasDict = false
  sh : x.showable = true
  ln : x.shown.length ≤ k
  dp : x.depth ≤ d
theorem Sh.ok {k d : Nat} {x : PyData} (h : Sh k d x) (hk : k ≤ 1000000) (hd : d ≤ 64) : okR x := ⟨h.nd, h.sh, Nat.le_trans h.ln (Nat.le_trans hk (by decide)), Nat.le_trans h.dp hd⟩
theorem str_app (a b : Str) : (a ++ b).length = a.length + b.length := by
  exact strLen_append a b
theorem int_show {n : Nat} {i : Int} (h0 : 0 < n) (h : B n i) : (PyData.int i).shown.length ≤ n + 1 := by
  rw [PyData.shown_int, PySem.ofString_length]
  unfold B at h
  cases i with
  | ofNat m =>
    have : (toString (Int.ofNat m)).length ≤ n := PySem.nat_repr_length_le h0 h
    omega
  | negSucc m =>
    have e : toString (Int.negSucc m) = "-" ++ (m + 1).repr := rfl
    have : ((m + 1).repr).length ≤ n := PySem.nat_repr_length_le h0 h
    rw [e, String.length_append]
    have : ("-" : String).length = 1 := rfl
    omega
theorem all_nd : ∀ {xs : List PyData}, (∀ x ∈ xs, x.hasDict = false) → PyData.hasDictAll xs = false
  | [], _ => rfl
  | a :: r, h => by
    simp only [PyData.hasDictAll, Bool.or_eq_false_iff]
    exact ⟨h a List.mem_cons_self, all_nd fun x hx => h x (List.mem_cons_of_mem _ hx)⟩
theorem all_sh : ∀ {xs : List PyData}, (∀ x ∈ xs, x.showable = true) → PyData.showableAll xs = true
  | [], _ => rfl
  | a :: r, h => by
    simp only [PyData.showableAll, Bool.and_eq_true]
    exact ⟨h a List.mem_cons_self, all_sh fun x hx => h x (List.mem_cons_of_mem _ hx)⟩
theorem all_ln {k : Nat} : ∀ {xs : List PyData}, (∀ x ∈ xs, x.shown.length ≤ k) → ((PyData.shownAll xs).map (fun x => x.length)).sum ≤ xs.length * k
  | [], _ => by simp [PyData.shownAll]
  | a :: r, h => by
    have := all_ln fun x hx => h x (List.mem_cons_of_mem a hx)
    have := h a List.mem_cons_self
    simp only [PyData.shownAll, List.map_cons, List.sum_cons, List.length_cons, Nat.add_mul]
    omega
theorem sl_join {k : Nat} {xs : List PyData} (h : ∀ x ∈ xs, x.shown.length ≤ k) : ((Str.ofString ", ").join (PyData.shownAll xs)).length ≤ xs.length * (k + 2) := by
  have := PySem.StrLaws.join_length_le (Str.ofString ", ") (PyData.shownAll xs)
  have e : (Str.ofString ", ").length = 2 := by rw [PySem.ofString_length]; rfl
  rw [PyData.shownAll_length, e] at this
  have := all_ln h
  rw [Nat.mul_add]
  omega
theorem one_ch : (Str.ofString "[").length = 1 ∧ (Str.ofString "]").length = 1 ∧ (Str.ofString "(").length = 1 ∧ ∀ b : Bool, (Str.ofString (if b = true then ",)" else ")")).length ≤ 2 := by
  refine ⟨?_, ?_, ?_, fun b => ?_⟩
  · rw [PySem.ofString_length]; rfl
  · rw [PySem.ofString_length]; rfl
  · rw [PySem.ofString_length]; rfl
  · cases b <;> rw [PySem.ofString_length] <;> decide
theorem Sh.tup {k d : Nat} {xs : List PyData} (h : ∀ x ∈ xs, Sh k d x) {K : Nat} (hK : xs.length * (k + 2) + 3 ≤ K) : Sh K (d + 1) (.tuple xs) := by
  refine ⟨?_, ?_, ?_, ?_⟩
  · rw [PyData.hasDict]
    exact all_nd fun x hx => (h x hx).nd
  · rw [PyData.showable]
    exact all_sh fun x hx => (h x hx).sh
  · have := sl_join fun x hx => (h x hx).ln
    have e := one_ch
    have := e.2.2.2 (xs.length == 1)
    rw [PyData.shown_tuple, str_app, str_app]
    omega
  · have := depth_all fun x hx => (h x hx).dp
    rw [PyData.depth]
    omega
theorem Sh.lst {k d : Nat} {xs : List PyData} (h : ∀ x ∈ xs, Sh k d x) {K : Nat} (hK : xs.length * (k + 2) + 3 ≤ K) : Sh K (d + 1) (.list xs) := by
  refine ⟨?_, ?_, ?_, ?_⟩
  · rw [PyData.hasDict]
    exact all_nd fun x hx => (h x hx).nd
  · rw [PyData.showable]
    exact all_sh fun x hx => (h x hx).sh
  · have := sl_join fun x hx => (h x hx).ln
    have e := one_ch
    rw [PyData.shown_list, str_app, str_app]
    omega
  · have := depth_all fun x hx => (h x hx).dp
    rw [PyData.depth]
    omega
theorem Sh.int {i : Int} (h : B 1600 i) : Sh 1601 0 (.int i) := by
  refine ⟨rfl, ?_, int_show (by decide) h, by simp [PyData.depth]⟩
  rw [PyData.showable]
  refine decide_eq_true ?_
  unfold B at h
  by_cases z : i.natAbs = 0
  · rw [z]
    decide
  · have := (Nat.log2_lt z).mpr h
    omega
theorem Sh.bool (b : Bool) : Sh 5 0 (.bool b) := by
  refine ⟨rfl, rfl, ?_, by simp [PyData.depth]⟩
  rw [PyData.shown_bool]
  cases b <;> (rw [show Str.length _ = _ from rfl]; decide)
theorem Sh.fr {a b : Int} (ha : B 1600 a) (hb : B 1600 b) : Sh 3300 1 (fr a b) := Sh.tup (k := 1601) (d := 0) (fun x hx => by
  simp only [List.mem_cons, List.not_mem_nil, or_false] at hx
  rcases hx with rfl | rfl
  · exact .int ha
  · exact .int hb) (by show 2 * (1601 + 2) + 3 ≤ 3300; decide)
theorem Sh.pt {p : Pt} (h : p.Ok) : Sh 6700 2 p.py := Sh.tup (k := 3300) (d := 1) (fun x hx => by
  simp only [List.mem_cons, List.not_mem_nil, or_false] at hx
  rcases hx with rfl | rfl
  · exact .fr h.ba h.bb
  · exact .fr h.bc h.bd) (by show 2 * (3300 + 2) + 3 ≤ 6700; decide)
theorem Sh.pts {ps : List Pt} (h : ∀ p ∈ ps, p.Ok) (hl : ps.length ≤ 8) : Sh 60000 3 (.tuple (ps.map Pt.py)) := Sh.tup (k := 6700) (d := 2) (fun x hx => by
  obtain ⟨p, hp, rfl⟩ := List.mem_map.mp hx
  exact .pt (h p hp)) (by
    rw [List.length_map]
    have : ps.length * (6700 + 2) ≤ 8 * (6700 + 2) := Nat.mul_le_mul_right _ hl
    omega)
theorem Sh.up {k d K D : Nat} {x : PyData} (h : Sh k d x) (hk : k ≤ K) (hd : d ≤ D) : Sh K D x := ⟨h.nd, h.sh, Nat.le_trans h.ln hk, Nat.le_trans h.dp hd⟩
end LB
namespace LB
open PySem PySem.Spec PyProof.Rows L2 DL
theorem Tr.Ok.up16 {t : Tr} (h : t.Ok 1000) : t.Ok 1600 := ⟨h.hw, B_mono h.bx (by decide), B_mono h.by_ (by decide), B_mono h.bw (by decide)⟩
theorem onT_swap {n : Nat} {p q t : Tr} (hp : p.Lo n) (hq : q.Lo n) (ne : p ≠ q) : onT q p t = onT p q t := by
  unfold onT
  have e : det q p t = - det p q t := det_swap
  by_cases d : det p q t = 0
  · have n1 : ¬ (det q p t ≠ 0) := fun z => z (by rw [e, d]; rfl)
    have n2 : ¬ (det p q t ≠ 0) := fun z => z d
    rw [if_neg n1, if_neg n2]
    rcases less_tri hp hq ne with h | h
    · rw [h, less_asymm hp.ok.hw hq.ok.hw h, if_neg Bool.false_ne_true, if_pos rfl]
    · rw [h, less_asymm hq.ok.hw hp.ok.hw h, if_neg Bool.false_ne_true, if_pos rfl]
  · rw [if_pos d, if_pos (fun z => d (by omega))]
theorem onT_end {n : Nat} {p q : Tr} (hp : p.Lo n) (hq : q.Lo n) : onT p q p = true ∧ onT p q q = true := by
  have d1 : det p q p = 0 := by unfold det; grind
  have d2 : det p q q = 0 := by unfold det; grind
  unfold onT
  have n1 : ¬ ((0 : Int) ≠ 0) := fun z => z rfl
  rw [d1, d2, if_neg n1, if_neg n1, less_irr, less_irr]
  by_cases ne : p = q
  · subst ne
    rw [less_irr]
    exact ⟨rfl, rfl⟩
  · rcases less_tri hp hq ne with h | h
    · rw [h, less_asymm hp.ok.hw hq.ok.hw h, if_pos rfl, if_pos rfl]
      exact ⟨rfl, rfl⟩
    · rw [h, less_asymm hq.ok.hw hp.ok.hw h, if_neg Bool.false_ne_true, if_neg Bool.false_ne_true]
      exact ⟨rfl, rfl⟩
theorem placeS_neg {x y w : Int} (h : w ≠ 0) : placeS (-x) (-y) (-w) = placeS x y w := by
  unfold placeS
  by_cases c : 0 < w
  · rw [if_neg (by omega), if_pos c]
    rw [Int.neg_neg, Int.neg_neg, Int.neg_neg]
  · rw [if_pos (by omega), if_neg c]
theorem coll_rs {n : Nat} {p q r s : Tr} (hp : p.Lo n) (hq : q.Lo n) (hr : r.Lo n) (hs : s.Lo n) (pq : p ≠ q) (rs : r ≠ s) : (det r s p = 0 ∧ det r s q = 0) ↔ (det p q r = 0 ∧ det p q s = 0) :=
  ⟨fun h => both_zero hr hs rs h.1 h.2, fun h => both_zero hp hq pq h.1 h.2⟩
theorem meetR_flip {n : Nat} {p q r s : Tr} {out : List Tr} (hp : p.Lo n) (hq : q.Lo n) (hr : r.Lo n) (hs : s.Lo n) (pq : p ≠ q) (rs : r ≠ s) (h : MeetR p q r s out) : MeetR q p r s out := by
  unfold MeetR at h ⊢
  have e1 : det q p r = - det p q r := det_swap
  have e2 : det q p s = - det p q s := det_swap
  by_cases c : det p q r = 0 ∧ det p q s = 0
  · rw [if_pos c] at h
    rw [if_pos (by omega)]
    refine ⟨fun t => ?_, h.2⟩
    rw [h.1 t, onT_swap hp hq pq]
    simp only [List.mem_cons, List.not_mem_nil, or_false]
    rw [or_comm (a := t = p)]
  · rw [if_neg c] at h
    rw [if_neg (by omega)]
    have m1 : det r s q * det r s p = det r s p * det r s q := Int.mul_comm _ _
    have m2 : det q p r * det q p s = det p q r * det p q s := by rw [e1, e2, Int.neg_mul_neg]
    rw [m1, m2]
    by_cases d : 0 < det r s p * det r s q ∨ 0 < det p q r * det p q s
    · rw [if_pos d] at h ⊢
      exact h
    · rw [if_neg d] at h ⊢
      rw [h]
      have w0 := cross_w hp hq hr hs rs c (fun z => d (.inl z))
      unfold crossS
      rw [← placeS_neg w0, Int.neg_sub, Int.neg_sub, Int.neg_sub]
theorem meetR_turn {n : Nat} {p q r s : Tr} {out : List Tr} (hp : p.Lo n) (hq : q.Lo n) (hr : r.Lo n) (hs : s.Lo n) (pq : p ≠ q) (rs : r ≠ s) (h : MeetR p q r s out) : MeetR r s p q out := by
  unfold MeetR at h ⊢
  by_cases c : det p q r = 0 ∧ det p q s = 0
  · rw [if_pos c] at h
    rw [if_pos ((coll_rs hp hq hr hs pq rs).mpr c)]
    exact ⟨fun t => (h.1 t).trans or_comm, h.2⟩
  · rw [if_neg c] at h
    rw [if_neg (fun z => c ((coll_rs hp hq hr hs pq rs).mp z))]
    by_cases d : 0 < det r s p * det r s q ∨ 0 < det p q r * det p q s
    · rw [if_pos d] at h
      rw [if_pos (or_comm.mp d)]
      exact h
    · rw [if_neg d] at h
      rw [if_neg (fun z => d (or_comm.mp z)), h]
      have w0 := cross_w hp hq hr hs rs c (fun z => d (.inl z))
      unfold crossS
      obtain ⟨k1, k2, k3⟩ := cross_eq (p := p) (q := q) (r := r) (s := s)
      rw [← placeS_neg w0, k1, k2, k3, Int.neg_sub, Int.neg_sub, Int.neg_sub]
/-- a segment and itself turned -/
theorem meetR_self {n : Nat} {p q : Tr} {out : List Tr} (hp : p.Lo n) (hq : q.Lo n) (h1 : ∀ t, t ∈ out ↔ t ∈ [p, q]) (h2 : out.Pairwise (fun a b => lessT a b = true)) : MeetR p q q p out := by
  unfold MeetR
  rw [if_pos ⟨by unfold det; grind, by unfold det; grind⟩]
  refine ⟨fun t => ?_, h2⟩
  rw [h1]
  have a := onT_end hp hq
  have b := onT_end hq hp
  simp only [List.mem_cons, List.not_mem_nil, or_false]
  constructor
  · rintro (rfl | rfl)
    · exact .inl ⟨.inl rfl, b.2⟩
    · exact .inl ⟨.inr rfl, b.1⟩
  · rintro (⟨z, _⟩ | ⟨z, _⟩)
    · exact z
    · exact or_comm.mp z
theorem range_at {m j : Nat} {d : D} (h : ((List.range m).map fun (i : Nat) => D.d (.int (0 + i)))[j]? = some d) : d = I (0 + j) ∧ j < m := by
  have hlt := (List.getElem?_eq_some_iff.mp h).1
  rw [List.length_map, List.length_range] at hlt
  rw [List.getElem?_map, List.getElem?_range hlt] at h
  cases h
  exact ⟨rfl, hlt⟩
end LB
namespace LB
open PySem PySem.Spec PyProof.Rows L2 DL
/-! ### directions -/
structure Dr where
  x : Int
  y : Int
  deriving DecidableEq
def Dr.py (a : Dr) : PyData := .tuple [.int a.x, .int a.y]
def lowD (a : Dr) : Bool := decide (a.y < 0) || (decide (a.y = 0) && decide (a.x < 0))
def crD (a b : Dr) : Int := a.x * b.y - a.y * b.x
def ltD (a b : Dr) : Bool := if lowD a = lowD b then decide (0 < crD a b) else lowD b
def Dr.nz (a : Dr) : Prop := ¬ (a.x = 0 ∧ a.y = 0)
theorem lowD_iff {a : Dr} : lowD a = true ↔ a.y < 0 ∨ (a.y = 0 ∧ a.x < 0) := by
  unfold lowD
  rw [Bool.or_eq_true, Bool.and_eq_true, decide_eq_true_iff, decide_eq_true_iff, decide_eq_true_iff]
theorem up_cross {a b c : Dr} (ha : 0 ≤ a.y ∧ (a.y = 0 → 0 < a.x)) (hb : 0 ≤ b.y ∧ (b.y = 0 → 0 < b.x)) (hc : 0 ≤ c.y ∧ (c.y = 0 → 0 < c.x)) (h1 : 0 ≤ crD a b) (h2 : 0 ≤ crD b c) : 0 ≤ crD a c := by
  unfold crD at *
  by_cases e : b.y = 0
  · have bx := hb.2 e
    rw [e, Int.mul_zero, Int.zero_sub] at h1
    have ay : a.y = 0 := by
      rcases Int.lt_or_le 0 a.y with z | z
      · have := Int.mul_pos z bx
        omega
      · omega
    have ax := ha.2 ay
    rw [ay, Int.zero_mul, Int.sub_zero]
    exact Int.mul_nonneg (Int.le_of_lt ax) hc.1
  · have by0 : 0 < b.y := by omega
    have k : b.y * (a.x * c.y - a.y * c.x) = a.y * (b.x * c.y - b.y * c.x) + c.y * (a.x * b.y - a.y * b.x) := by grind
    have n1 := Int.mul_nonneg ha.1 h2
    have n2 := Int.mul_nonneg hc.1 h1
    rcases Int.lt_or_le (a.x * c.y - a.y * c.x) 0 with z | z
    · have := Int.mul_neg_of_pos_of_neg by0 z
      omega
    · exact z
theorem le_trans {a b c : Dr} (na : a.nz) (nb : b.nz) (nc : c.nz) (h1 : ltD b a = false) (h2 : ltD c b = false) : ltD c a = false := by
  have fa := lowD_iff (a := a)
  have fb := lowD_iff (a := b)
  have fc := lowD_iff (a := c)
  unfold Dr.nz at na nb nc
  unfold ltD at *
  have neg : ∀ p q : Dr, crD q p = - crD p q := fun p q => by unfold crD; grind
  by_cases hab : lowD b = lowD a
  · rw [if_pos hab] at h1
    by_cases hbc : lowD c = lowD b
    · rw [if_pos hbc] at h2
      rw [if_pos (hbc.trans hab)]
      have g1 : 0 ≤ crD a b := by have := neg a b; have : ¬ 0 < crD b a := by simpa using h1
                                  omega
      have g2 : 0 ≤ crD b c := by have := neg b c; have : ¬ 0 < crD c b := by simpa using h2
                                  omega
      have g3 : 0 ≤ crD a c := by
        cases la : lowD a with
        | false =>
          rw [la] at hab
          rw [hab] at hbc
          have x1 : ¬ lowD a = true := by rw [la]; decide
          have x2 : ¬ lowD b = true := by rw [hab]; decide
          have x3 : ¬ lowD c = true := by rw [hbc]; decide
          rw [fa] at x1
          rw [fb] at x2
          rw [fc] at x3
          exact up_cross (by omega) (by omega) (by omega) g1 g2
        | true =>
          rw [la] at hab
          rw [hab] at hbc
          have x1 := fa.mp la
          have x2 := fb.mp hab
          have x3 := fc.mp hbc
          have mm : ∀ p q : Dr, crD ⟨-p.x, -p.y⟩ ⟨-q.x, -q.y⟩ = crD p q := fun p q => by unfold crD; grind
          have := up_cross (a := ⟨-a.x, -a.y⟩) (b := ⟨-b.x, -b.y⟩) (c := ⟨-c.x, -c.y⟩) (by simp only []; omega) (by simp only []; omega) (by simp only []; omega) (by rw [mm]; exact g1) (by rw [mm]; exact g2)
          rwa [mm] at this
      have := neg a c
      exact decide_eq_false (by omega)
    · rw [if_neg hbc] at h2
      rw [if_neg (fun z => hbc (z.trans hab.symm)), ← hab]
      exact h2
  · rw [if_neg hab] at h1
    by_cases hbc : lowD c = lowD b
    · rw [if_neg (fun z => hab (hbc.symm.trans z))]
      exact h1
    · rw [if_neg hbc] at h2
      rw [h1, h2] at hab
      exact absurd rfl hab
theorem lt_asymm {a b : Dr} (h : ltD a b = true) : ltD b a = false := by
  unfold ltD at *
  have neg : crD b a = - crD a b := by unfold crD; grind
  by_cases e : lowD a = lowD b
  · rw [if_pos e] at h
    rw [if_pos e.symm]
    have : 0 < crD a b := by simpa using h
    exact decide_eq_false (by omega)
  · rw [if_neg e] at h
    rw [if_neg (fun z => e z.symm)]
    cases la : lowD a with
    | false => rfl
    | true => exact absurd (la.trans h.symm) e
/-- a direction told with an index -/
structure Rw where
  d : Dr
  i : Nat
def Rw.py (z : Rw) : PyData := .tuple [z.d.py, .int z.i]
/-- ahead in turn, or alike and told first -/
def Rw.lt (a b : Rw) : Prop := ltD b.d a.d = false ∧ (ltD a.d b.d = false → a.i < b.i)
theorem Rw.lt_trans {a b c : Rw} (na : a.d.nz) (nb : b.d.nz) (nc : c.d.nz) (h : a.lt b) (g : b.lt c) : a.lt c := by
  refine ⟨le_trans na nb nc h.1 g.1, fun k => ?_⟩
  have h1 := h.2 (le_trans nb nc na g.1 k)
  have h2 := g.2 (le_trans nc na nb k h.1)
  omega
theorem Rw.lt_asymm {a b : Rw} (h : a.lt b) (g : b.lt a) : False := by
  have h1 := h.2 g.1
  have h2 := g.2 h.1
  omega
theorem Rw.of_lt {a b : Rw} (h : ltD a.d b.d = true) : a.lt b := ⟨LB.lt_asymm h, fun k => by rw [h] at k; cases k⟩
theorem Rw.of_idx {a b : Rw} (h : ltD b.d a.d = false) (g : a.i < b.i) : a.lt b := ⟨h, fun _ => g⟩
/-- rows in order with the same members are the same -/
theorem ord_one {α : Type} {R : α → α → Prop} (as : ∀ a b, R a b → R b a → False) : ∀ (l m : List α), l.Pairwise R → m.Pairwise R → (∀ t, t ∈ l ↔ t ∈ m) → l = m
  | [], [], _, _, _ => rfl
  | [], b :: m, _, _, h => absurd ((h b).mpr List.mem_cons_self) List.not_mem_nil
  | a :: l, [], _, _, h => absurd ((h a).mp List.mem_cons_self) List.not_mem_nil
  | a :: l, b :: m, hl, hm, h => by
    rw [List.pairwise_cons] at hl hm
    have e : a = b := by
      rcases List.mem_cons.mp ((h a).mp List.mem_cons_self) with z | z
      · exact z
      · rcases List.mem_cons.mp ((h b).mpr List.mem_cons_self) with y | y
        · exact y.symm
        · exact (as _ _ (hm.1 a z) (hl.1 b y)).elim
    subst e
    rw [ord_one as l m hl.2 hm.2 (fun t => ?_)]
    constructor
    · intro ht
      rcases List.mem_cons.mp ((h t).mp (List.mem_cons_of_mem _ ht)) with z | z
      · exact (as _ _ (hl.1 t ht) (z ▸ hl.1 t ht)).elim
      · exact z
    · intro ht
      rcases List.mem_cons.mp ((h t).mpr (List.mem_cons_of_mem _ ht)) with z | z
      · exact (as _ _ (hm.1 t ht) (z ▸ hm.1 t ht)).elim
      · exact z
end LB
namespace LB
open PySem PySem.Spec PyProof.Rows L2 DL
def dirT (p q : Tr) : Dr := ⟨q.x * p.w - p.x * q.w, q.y * p.w - p.y * q.w⟩
/-- one direction, told twice -/
def Along (a b : Dr) : Prop := ∃ k l : Int, 0 < k ∧ 0 < l ∧ k * a.x = l * b.x ∧ k * a.y = l * b.y
theorem sgn_neg_iff {m n : Int} (h : sgn m = sgn n) : (m < 0 ↔ n < 0) ∧ (m = 0 ↔ n = 0) ∧ (0 < m ↔ 0 < n) := by
  have a := @sgn_lt m
  have b := @sgn_lt n
  have c := @sgn_zero m
  have d := @sgn_zero n
  rw [h] at a c
  have e1 : m < 0 ↔ n < 0 := a.symm.trans b
  have e2 : m = 0 ↔ n = 0 := c.symm.trans d
  exact ⟨e1, e2, by omega⟩
theorem low_along {a b : Dr} (h : Along a b) : lowD a = lowD b := by
  obtain ⟨k, l, hk, hl, hx, hy⟩ := h
  have sx := sgn_neg_iff (sgn_scale hk hl hx)
  have sy := sgn_neg_iff (sgn_scale hk hl hy)
  rw [Bool.eq_iff_iff, lowD_iff, lowD_iff]
  omega
theorem lt_along {a b a' b' : Dr} (h : Along a a') (g : Along b b') : ltD a b = ltD a' b' := by
  unfold ltD
  rw [low_along h, low_along g]
  obtain ⟨k, l, hk, hl, hx, hy⟩ := h
  obtain ⟨m, n, hm, hn, gx, gy⟩ := g
  have c : k * m * crD a b = l * n * crD a' b' := by
    unfold crD
    have : k * m * (a.x * b.y - a.y * b.x) = (k * a.x) * (m * b.y) - (k * a.y) * (m * b.x) := by grind
    rw [this, hx, hy, gx, gy]
    grind
  have s := sgn_neg_iff (sgn_scale (Int.mul_pos hk hm) (Int.mul_pos hl hn) c)
  split
  · rw [Bool.eq_iff_iff, decide_eq_true_iff, decide_eq_true_iff]
    exact s.2.2
  · rfl
theorem dir_along {p q : Pt} {t u t' u' : Tr} (h : Rel p t) (g : Rel p u) (h' : Rel q t') (g' : Rel q u') : Along (dirT t t') (dirT u u') := by
  obtain ⟨a1, a2⟩ := rel_same h g
  obtain ⟨b1, b2⟩ := rel_same h' g'
  refine ⟨u.w * u'.w, t.w * t'.w, Int.mul_pos g.hw g'.hw, Int.mul_pos h.hw h'.hw, ?_, ?_⟩
  · unfold dirT
    simp only []
    have : u.w * u'.w * (t'.x * t.w - t.x * t'.w) = (u'.w * t'.x) * (u.w * t.w) - (u.w * t.x) * (u'.w * t'.w) := by grind
    rw [this, b1, a1]
    grind
  · unfold dirT
    simp only []
    have : u.w * u'.w * (t'.y * t.w - t.y * t'.w) = (u'.w * t'.y) * (u.w * t.w) - (u.w * t.y) * (u'.w * t'.w) := by grind
    rw [this, b2, a2]
    grind
theorem dir_nz {p q : Pt} {t u : Tr} (hp : p.Ok) (hq : q.Ok) (h : Rel p t) (g : Rel q u) (ne : p ≠ q) : (dirT t u).nz := by
  have := rel_ne hp hq h g ne
  unfold dirT Dr.nz
  simp only []
  omega
def halfI (a : Dr) : Int := if 0 < a.y then 0 else if a.y = 0 ∧ 0 < a.x then 0 else 1
def ltL (a b : Dr) : Bool := if halfI a < halfI b then true else decide (halfI a = halfI b) && decide (0 < crD a b)
theorem half_low {a : Dr} (h : a.nz) : halfI a = if lowD a = true then 1 else 0 := by
  have f := lowD_iff (a := a)
  unfold halfI
  unfold Dr.nz at h
  by_cases l : lowD a = true
  · rw [if_pos l]
    have := f.mp l
    rw [if_neg (by omega), if_neg (by omega)]
  · rw [if_neg l]
    rw [f] at l
    by_cases y : 0 < a.y
    · rw [if_pos y]
    · rw [if_neg y, if_pos (by omega)]
theorem ltL_eq {a b : Dr} (ha : a.nz) (hb : b.nz) : ltL a b = ltD a b := by
  unfold ltL ltD
  rw [half_low ha, half_low hb]
  cases lowD a <;> cases lowD b <;> simp
end LB
namespace K04
open PySem PySem.Spec PyProof.Rows L2 DL LB
def topS (i : Nat) : Stmt := PySem.Challenge.pw_bentalike_k04_directions_in_turn_by_own.main.body.getD i (.Pass ⟨0, 0, 0, 0⟩)
abbrev s_is_whole : Stmt := topS 6
abbrev N_is_whole : List Str := ["value"]
theorem sc_is_whole : FnScope N_is_whole ["value"] (defScope s_is_whole) := ⟨rfl, rfl, rfl, by decide +kernel, rfl, by decide +kernel, by decide +kernel⟩
abbrev s_is_row : Stmt := topS 7
abbrev N_is_row : List Str := ["value", "low", "high"]
theorem sc_is_row : FnScope N_is_row ["value", "low", "high"] (defScope s_is_row) := ⟨rfl, rfl, rfl, by decide +kernel, rfl, by decide +kernel, by decide +kernel⟩
abbrev s_is_fraction : Stmt := topS 8
abbrev N_is_fraction : List Str := ["value"]
theorem sc_is_fraction : FnScope N_is_fraction ["value"] (defScope s_is_fraction) := ⟨rfl, rfl, rfl, by decide +kernel, rfl, by decide +kernel, by decide +kernel⟩
abbrev s_is_place : Stmt := topS 9
abbrev N_is_place : List Str := ["value"]
theorem sc_is_place : FnScope N_is_place ["value"] (defScope s_is_place) := ⟨rfl, rfl, rfl, by decide +kernel, rfl, by decide +kernel, by decide +kernel⟩
abbrev s_check_point : Stmt := topS 12
abbrev N_check_point : List Str := ["value"]
theorem sc_check_point : FnScope N_check_point ["value"] (defScope s_check_point) := ⟨rfl, rfl, rfl, by decide +kernel, rfl, by decide +kernel, by decide +kernel⟩
abbrev s_check_points : Stmt := topS 13
abbrev N_check_points : List Str := ["value", "index", "point"]
theorem sc_check_points : FnScope N_check_points ["value"] (defScope s_check_points) := ⟨rfl, rfl, rfl, by decide +kernel, rfl, by decide +kernel, by decide +kernel⟩
abbrev s_merged : Stmt := topS 16
abbrev N_merged : List Str := ["left", "right", "is_below", "out", "i", "j"]
theorem sc_merged : FnScope N_merged ["left", "right", "is_below"] (defScope s_merged) := ⟨rfl, rfl, rfl, by decide +kernel, rfl, by decide +kernel, by decide +kernel⟩
abbrev s_sorted_by : Stmt := topS 15
abbrev N_sorted_by : List Str := ["rows", "is_below", "middle"]
theorem sc_sorted_by : FnScope N_sorted_by ["rows", "is_below"] (defScope s_sorted_by) := ⟨rfl, rfl, rfl, by decide +kernel, rfl, by decide +kernel, by decide +kernel⟩
abbrev s_scaled : Stmt := topS 18
abbrev N_scaled : List Str := ["point", "x", "x_lower", "y", "y_lower", "w"]
theorem sc_scaled : FnScope N_scaled ["point"] (defScope s_scaled) := ⟨rfl, rfl, rfl, by decide +kernel, rfl, by decide +kernel, by decide +kernel⟩
abbrev s_heading : Stmt := topS 20
abbrev N_heading : List Str := ["start", "goal"]
theorem sc_heading : FnScope N_heading ["start", "goal"] (defScope s_heading) := ⟨rfl, rfl, rfl, by decide +kernel, rfl, by decide +kernel, by decide +kernel⟩
abbrev s_is_lower_half : Stmt := topS 21
abbrev N_is_lower_half : List Str := ["direction"]
theorem sc_is_lower_half : FnScope N_is_lower_half ["direction"] (defScope s_is_lower_half) := ⟨rfl, rfl, rfl, by decide +kernel, rfl, by decide +kernel, by decide +kernel⟩
abbrev s_is_turned_less : Stmt := topS 22
abbrev N_is_turned_less : List Str := ["first", "second", "x", "y", "other_x", "other_y", "lower", "other_lower"]
theorem sc_is_turned_less : FnScope N_is_turned_less ["first", "second"] (defScope s_is_turned_less) := ⟨rfl, rfl, rfl, by decide +kernel, rfl, by decide +kernel, by decide +kernel⟩
abbrev s_in_turn : Stmt := topS 24
abbrev N_in_turn : List Str := ["point", "points", "index", "goal", "start", "rows", "_"]
theorem sc_in_turn : FnScope N_in_turn ["point", "points"] (defScope s_in_turn) := ⟨rfl, rfl, rfl, by decide +kernel, rfl, by decide +kernel, by decide +kernel⟩
abbrev s_spring : Stmt := topS 26
abbrev N_spring : List Str := ["_law_script", "_law_turn", "_law_mixed", "_law_cell", "_law_own_here"]
theorem sc_spring : FnScope N_spring ["_law_script", "_law_turn"] (defScope s_spring) := ⟨rfl, rfl, rfl, by decide +kernel, rfl, by decide +kernel, by decide +kernel⟩
abbrev s_draw : Stmt := topS 27
abbrev N_draw : List Str := ["_law_spring_here", "_law_many", "_law_digit", "_law_seed"]
theorem sc_draw : FnScope N_draw ["_law_spring_here", "_law_many"] (defScope s_draw) := ⟨rfl, rfl, rfl, by decide +kernel, rfl, by decide +kernel, by decide +kernel⟩
abbrev s_one_of : Stmt := topS 28
abbrev N_one_of : List Str := ["_law_spring_here", "_law_some"]
theorem sc_one_of : FnScope N_one_of ["_law_spring_here", "_law_some"] (defScope s_one_of) := ⟨rfl, rfl, rfl, by decide +kernel, rfl, by decide +kernel, by decide +kernel⟩
abbrev s_divisor : Stmt := topS 29
abbrev N_divisor : List Str := ["_law_one", "_law_two", "_law_far", "_law_rest"]
theorem sc_divisor : FnScope N_divisor ["_law_one", "_law_two"] (defScope s_divisor) := ⟨rfl, rfl, rfl, by decide +kernel, rfl, by decide +kernel, by decide +kernel⟩
abbrev s_part : Stmt := topS 30
abbrev N_part : List Str := ["_law_top", "_law_base", "_law_far"]
theorem sc_part : FnScope N_part ["_law_top", "_law_base"] (defScope s_part) := ⟨rfl, rfl, rfl, by decide +kernel, rfl, by decide +kernel, by decide +kernel⟩
abbrev s_place : Stmt := topS 31
abbrev N_place : List Str := ["_law_x", "_law_y", "_law_w", "_law_far"]
theorem sc_place : FnScope N_place ["_law_x", "_law_y", "_law_w"] (defScope s_place) := ⟨rfl, rfl, rfl, by decide +kernel, rfl, by decide +kernel, by decide +kernel⟩
abbrev s_told : Stmt := topS 32
abbrev N_told : List Str := ["_law_place_here"]
theorem sc_told : FnScope N_told ["_law_place_here"] (defScope s_told) := ⟨rfl, rfl, rfl, by decide +kernel, rfl, by decide +kernel, by decide +kernel⟩
abbrev s_own : Stmt := topS 33
abbrev N_own : List Str := ["_law_told_here", "_law_a", "_law_b", "_law_c", "_law_d"]
theorem sc_own : FnScope N_own ["_law_told_here"] (defScope s_own) := ⟨rfl, rfl, rfl, by decide +kernel, rfl, by decide +kernel, by decide +kernel⟩
abbrev s_l_half : Stmt := topS 34
abbrev N_l_half : List Str := ["_law_line"]
theorem sc_l_half : FnScope N_l_half ["_law_line"] (defScope s_l_half) := ⟨rfl, rfl, rfl, by decide +kernel, rfl, by decide +kernel, by decide +kernel⟩
abbrev s_l_is_ahead : Stmt := topS 35
abbrev N_l_is_ahead : List Str := ["_law_one", "_law_two", "_law_here", "_law_there"]
theorem sc_l_is_ahead : FnScope N_l_is_ahead ["_law_one", "_law_two"] (defScope s_l_is_ahead) := ⟨rfl, rfl, rfl, by decide +kernel, rfl, by decide +kernel, by decide +kernel⟩
abbrev s_by_lines : Stmt := topS 36
abbrev N_by_lines : List Str := ["_law_some", "_law_found", "_law_each", "_law_at"]
theorem sc_by_lines : FnScope N_by_lines ["_law_some"] (defScope s_by_lines) := ⟨rfl, rfl, rfl, by decide +kernel, rfl, by decide +kernel, by decide +kernel⟩
abbrev s_frame : Stmt := topS 37
abbrev N_frame : List Str := ["_law_spring_here", "_law_wide", "_law_x", "_law_y", "_law_step", "_law_under"]
theorem sc_frame : FnScope N_frame ["_law_spring_here"] (defScope s_frame) := ⟨rfl, rfl, rfl, by decide +kernel, rfl, by decide +kernel, by decide +kernel⟩
abbrev s_grid : Stmt := topS 38
abbrev N_grid : List Str := ["_law_frame_here", "_law_i", "_law_j", "_law_n", "_law_x", "_law_y", "_law_step", "_law_under", "_law_wide"]
theorem sc_grid : FnScope N_grid ["_law_frame_here", "_law_i", "_law_j", "_law_n"] (defScope s_grid) := ⟨rfl, rfl, rfl, by decide +kernel, rfl, by decide +kernel, by decide +kernel⟩
abbrev s_dot : Stmt := topS 39
abbrev N_dot : List Str := ["_law_spring_here", "_law_frame_here", "_law_n", "_law_i", "_law_j"]
theorem sc_dot : FnScope N_dot ["_law_spring_here", "_law_frame_here"] (defScope s_dot) := ⟨rfl, rfl, rfl, by decide +kernel, rfl, by decide +kernel, by decide +kernel⟩
abbrev s_others : Stmt := topS 40
abbrev N_others : List Str := ["_law_spring_here", "_law_frame_here", "_law_here", "_law_found", "_law_steps_of", "_law_some", "_law_turn", "_law_x", "_law_y", "_law_n", "_law_m", "_law_far"]
theorem sc_others : FnScope N_others ["_law_spring_here", "_law_frame_here", "_law_here"] (defScope s_others) := ⟨rfl, rfl, rfl, by decide +kernel, rfl, by decide +kernel, by decide +kernel⟩
abbrev s_due : Stmt := topS 41
abbrev N_due : List Str := ["_law_here", "_law_row", "_law_some", "_law_at", "_law_each", "_law_far"]
theorem sc_due : FnScope N_due ["_law_here", "_law_row"] (defScope s_due) := ⟨rfl, rfl, rfl, by decide +kernel, rfl, by decide +kernel, by decide +kernel⟩
abbrev s_right : Stmt := topS 42
abbrev N_right : List Str := ["_law_spring_here", "_law_frame_here", "_law_near", "_law_here", "_law_row", "_law_back", "_law_due_here", "_law_other_due", "_law_told_here"]
theorem sc_right : FnScope N_right ["_law_spring_here"] (defScope s_right) := ⟨rfl, rfl, rfl, by decide +kernel, rfl, by decide +kernel, by decide +kernel⟩
abbrev s_law : Stmt := topS 43
abbrev N_law : List Str := ["_law_script", "_law_turn"]
theorem sc_law : FnScope N_law ["_law_script"] (defScope s_law) := ⟨rfl, rfl, rfl, by decide +kernel, rfl, by decide +kernel, by decide +kernel⟩
structure Tx (K : PySem.W.Frag) (mg : Str → Option Value) : Prop where
  n_abs : mg "abs" = none
  n_all : mg "all" = none
  n_bool : mg "bool" = none
  n_divmod : mg "divmod" = none
  n_enumerate : mg "enumerate" = none
  n_int : mg "int" = none
  n_isinstance : mg "isinstance" = none
  n_len : mg "len" = none
  n_list : mg "list" = none
  n_max : mg "max" = none
  n_min : mg "min" = none
  n_range : mg "range" = none
  n_repr : mg "repr" = none
  n_tuple : mg "tuple" = none
  m_gcd : mg "gcd" = some (.builtin "math.gcd")
  m_lcm : mg "lcm" = some (.builtin "math.lcm")
  g_MOST_IN_ROW : ∃ t, mg "MOST_IN_ROW" = some (.int 24 t)
  h_is_whole : Has K mg "is_whole" s_is_whole
  h_is_row : Has K mg "is_row" s_is_row
  h_is_fraction : Has K mg "is_fraction" s_is_fraction
  h_is_place : Has K mg "is_place" s_is_place
  h_check_point : Has K mg "check_point" s_check_point
  h_check_points : Has K mg "check_points" s_check_points
  h_merged : Has K mg "merged" s_merged
  h_sorted_by : Has K mg "sorted_by" s_sorted_by
  h_scaled : Has K mg "scaled" s_scaled
  h_heading : Has K mg "heading" s_heading
  h_is_lower_half : Has K mg "is_lower_half" s_is_lower_half
  h_is_turned_less : Has K mg "is_turned_less" s_is_turned_less
  h_in_turn : Has K mg "in_turn" s_in_turn
  h_spring : Has K mg "_law_spring" s_spring
  h_draw : Has K mg "_law_draw" s_draw
  h_one_of : Has K mg "_law_one_of" s_one_of
  h_divisor : Has K mg "_law_divisor" s_divisor
  h_part : Has K mg "_law_part" s_part
  h_place : Has K mg "_law_place" s_place
  h_told : Has K mg "_law_told" s_told
  h_own : Has K mg "_law_own" s_own
  h_l_half : Has K mg "_law_half" s_l_half
  h_l_is_ahead : Has K mg "_law_is_ahead" s_l_is_ahead
  h_by_lines : Has K mg "_law_by_lines" s_by_lines
  h_frame : Has K mg "_law_frame" s_frame
  h_grid : Has K mg "_law_grid" s_grid
  h_dot : Has K mg "_law_dot" s_dot
  h_others : Has K mg "_law_others" s_others
  h_due : Has K mg "_law_due" s_due
  h_right : Has K mg "_law_right" s_right
  h_law : Has K mg "law" s_law
end K04
namespace K04
open PySem PySem.Spec PyProof.Rows L2 DL LB
def sp_check_points : SpD := fun ds st Q => ∃ ps : List Pt, ds = [.d (.tuple (ps.map Pt.py))] ∧ ps.length ≤ 24 ∧ (∀ p ∈ ps, p.Ok) ∧ Q (.d .none) st
def sp_heading : SpD := fun ds st Q => ∃ s g : Tr, ds = [.d s.py, .d g.py] ∧ s.Ok 2000 ∧ g.Ok 2000 ∧ Q (.d (dirT s g).py) st
def sp_is_lower_half : SpD := fun ds st Q => ∃ a : Dr, ds = [.d a.py] ∧ Q (Bo (lowD a)) st
/-- a row that may be compared -/
structure RwOk (z : Rw) : Prop where
  bx : B 5000 z.d.x
  by_ : B 5000 z.d.y
  nz : z.d.nz
def sp_is_turned_less : SpD := fun ds st Q => ∃ a b : Rw, ds = [.d a.py, .d b.py] ∧ RwOk a ∧ RwOk b ∧ Q (Bo (ltD a.d b.d)) st
def sp_merged (F : Addr) : SpD := fun ds st Q => ∃ ls rs : List Rw, ds = [.d (.list (ls.map Rw.py)), .d (.list (rs.map Rw.py)), .own F] ∧ (∀ z ∈ ls, RwOk z) ∧ (∀ z ∈ rs, RwOk z) ∧ ls.length ≤ 100 ∧ rs.length ≤ 100 ∧
  ls.Pairwise Rw.lt ∧ rs.Pairwise Rw.lt ∧ (∀ a ∈ ls, ∀ b ∈ rs, a.i < b.i) ∧
  ∀ out : List Rw, (∀ t, t ∈ out ↔ t ∈ ls ∨ t ∈ rs) → out.Pairwise Rw.lt → out.length = ls.length + rs.length → Q (.d (.list (out.map Rw.py))) st
def sp_sorted_byK (F : Addr) (j : Nat) : SpD := fun ds st Q => ∃ ls : List Rw, ds = [.d (.list (ls.map Rw.py)), .own F] ∧ (∀ z ∈ ls, RwOk z) ∧ ls.length ≤ 2 ^ j ∧ ls.length ≤ 32 ∧ ls.Pairwise (fun a b => a.i < b.i) ∧
  ∀ out : List Rw, (∀ t, t ∈ out ↔ t ∈ ls) → out.Pairwise Rw.lt → out.length = ls.length → Q (.d (.list (out.map Rw.py))) st
def sp_sorted_by (F : Addr) : SpD := sp_sorted_byK F 5
/-- the I-th of the others, seen from p -/
def rowL (p : Pt) (ps : List Pt) (i : Nat) : Rw := ⟨dirT (ownT p) (ownT (ps.getD i p)), i⟩
def Turn (p : Pt) (ps : List Pt) (out : List Nat) : Prop := (∀ i, i ∈ out ↔ i < ps.length) ∧ out.Pairwise (fun i j => (rowL p ps i).lt (rowL p ps j)) ∧ out.length = ps.length
def idxs (out : List Nat) : PyData := .tuple (out.map fun (i : Nat) => PyData.int (i : Int))
def sp_in_turn : SpD := fun ds st Q => ∃ (p : Pt) (ps : List Pt), ds = [.d p.py, .d (.tuple (ps.map Pt.py))] ∧ p.Sm ∧ (∀ q ∈ ps, q.Sm) ∧ (∀ q ∈ ps, q ≠ p) ∧ ps.length ≤ 24 ∧
  ∀ out, Turn p ps out → Q (.d (idxs out)) st
def sp_l_half : SpD := fun ds st Q => ∃ a : Dr, ds = [.d a.py] ∧ Q (I (halfI a)) st
def sp_l_is_ahead : SpD := fun ds st Q => ∃ a b : Dr, ds = [.d a.py, .d b.py] ∧ (B 5000 a.x ∧ B 5000 a.y) ∧ (B 5000 b.x ∧ B 5000 b.y) ∧ Q (Bo (ltL a b)) st
def sp_by_lines : SpD := fun ds st Q => ∃ (a : Addr) (ls : List Rw), ds = [.own a] ∧ st a = some (ls.map fun z => .d z.py) ∧ (∀ z ∈ ls, RwOk z) ∧ ls.length ≤ 100 ∧ ls.Pairwise (fun a b => a.i < b.i) ∧
  ∀ out : List Rw, (∀ t, t ∈ out ↔ t ∈ ls) → out.Pairwise Rw.lt → out.length = ls.length → Q (.d (.list (out.map Rw.py))) st
def sp_due : SpD := fun ds st Q => ∃ (p : Pt) (ps : List Pt), ds = [.d (ownT p).py, .d (.tuple (ps.map Pt.py))] ∧ p.Sm ∧ (∀ q ∈ ps, q.Sm) ∧ (∀ q ∈ ps, q ≠ p) ∧ ps.length ≤ 24 ∧
  ∀ out, Turn p ps out → Q (.d (idxs out)) st
def sp_others : SpD := fun ds st Q => ∃ (a : Addr) (x y s u w : Int) (h : Pt), ds = [.own a, .d (frP x y s u w), .d (ownT h).py] ∧ FrOk x y s u w ∧ h.G ∧
  spS 400 (fun d => ∃ ps : List Pt, d = .d (.list (ps.map Pt.py)) ∧ ps.length ≤ 24 ∧ (∀ q ∈ ps, q.Sm) ∧ (∀ q ∈ ps, q ≠ h)) a st Q
def sp_right : SpD := fun ds st Q => match ds with
  | [.own p] => ∃ xs, st p = some xs ∧ SprL xs 0 ∧ ∀ st', Q (Bo true) st'
  | _ => False
def sp_law : SpD := fun ds st Q => match ds with
  | [.scr ns] => ns.length ≤ 63 ∧ ∀ st', Q (Bo true) st'
  | _ => False
end K04
namespace K04
open PySem PySem.Spec PyProof.Rows L2 DL LB
def b_check_points_1 : TSd := (dIfS (dNotT (dTst (dFn0 sp_is_row (dCons (dVar 0) (dCons (dC (.int 0)) (dCons (dC (.int 24)) dNil)))))) dNever dNext)
def b_check_points_2 : TSd := (dFor (dEnum (dCons (dVar 0) dNil)) (hTup 2 (hCons (hName 1) (hCons (hName 2) hNil))) (dIfS (dNotT (dTst (dFn0 sp_is_place (dCons (dVar 2) dNil)))) dNever dNext))
def b_check_points : TSd := (dSeq b_check_points_1 b_check_points_2)
def b_merged_1 (F : Addr) (sp_F : SpD) : TSd := (dAsg (dLst dNil) (hName 3))
def b_merged_2 (F : Addr) (sp_F : SpD) : TSd := (dTwo 4 5 (dC (.int 0)))
def b_merged_3 (F : Addr) (sp_F : SpD) : TSd := (dWhile (dAndT (dTst (dBin rLtD (dVar 4) (dCall cLen (dCons (dVar 0) dNil)))) (dTst (dBin rLtD (dVar 5) (dCall cLen (dCons (dVar 1) dNil))))) (dIfS (dTst (dFnL sp_F 2 F (dCons (dBin rIxD (dVar 1) (dVar 5)) (dCons (dBin rIxD (dVar 0) (dVar 4)) dNil)))) (dSeq (dDrop (dApp (dVar 3) (dBin rIxD (dVar 1) (dVar 5)))) (dAug 5 (dC (.int 1)))) (dSeq (dDrop (dApp (dVar 3) (dBin rIxD (dVar 0) (dVar 4)))) (dAug 4 (dC (.int 1))))))
def b_merged_4 (F : Addr) (sp_F : SpD) : TSd := (dRet (dBin rAddD (dBin rAddD (dVar 3) (dSl (dVar 0) (dPart (dVar 4)) dNoP)) (dSl (dVar 1) (dPart (dVar 5)) dNoP)))
def b_merged (F : Addr) (sp_F : SpD) : TSd := (dSeq (b_merged_1 F sp_F) (dSeq (b_merged_2 F sp_F) (dSeq (b_merged_3 F sp_F) (b_merged_4 F sp_F))))
def b_sorted_by_1 (sp_self : SpD) (F : Addr) : TSd := (dIfS (dTst (dBin rLtD (dCall cLen (dCons (dVar 0) dNil)) (dC (.int 2)))) (dRet (dCall cListV (dCons (dVar 0) dNil))) dNext)
def b_sorted_by_2 (sp_self : SpD) (F : Addr) : TSd := (dAsg (dBin rDivD (dCall cLen (dCons (dVar 0) dNil)) (dC (.int 2))) (hName 2))
def b_sorted_by_3 (sp_self : SpD) (F : Addr) : TSd := (dRet (dFn0 (sp_merged F) (dCons (dFn0 sp_self (dCons (dSl (dVar 0) dNoP (dPart (dVar 2))) (dCons (dVar 1) dNil))) (dCons (dFn0 sp_self (dCons (dSl (dVar 0) (dPart (dVar 2)) dNoP) (dCons (dVar 1) dNil))) (dCons (dVar 1) dNil)))))
def b_sorted_by (sp_self : SpD) (F : Addr) : TSd := (dSeq (b_sorted_by_1 sp_self F) (dSeq (b_sorted_by_2 sp_self F) (b_sorted_by_3 sp_self F)))
def b_heading : TSd := (dRet (dTup (dCons (dBin rSubD (dBin rMulD (dBin rIxD (dVar 1) (dC (.int 0))) (dBin rIxD (dVar 0) (dC (.int 2)))) (dBin rMulD (dBin rIxD (dVar 0) (dC (.int 0))) (dBin rIxD (dVar 1) (dC (.int 2))))) (dCons (dBin rSubD (dBin rMulD (dBin rIxD (dVar 1) (dC (.int 1))) (dBin rIxD (dVar 0) (dC (.int 2)))) (dBin rMulD (dBin rIxD (dVar 0) (dC (.int 1))) (dBin rIxD (dVar 1) (dC (.int 2))))) dNil))))
def b_is_lower_half : TSd := (dRet (dOr (dBin rLtD (dBin rIxD (dVar 0) (dC (.int 1))) (dC (.int 0))) (dAnd (dBin rEqV (dBin rIxD (dVar 0) (dC (.int 1))) (dC (.int 0))) (dBin rLtD (dBin rIxD (dVar 0) (dC (.int 0))) (dC (.int 0))))))
def b_is_turned_less_1 : TSd := (dAsg (dTup (dCons (dBin rIxD (dVar 0) (dC (.int 0))) (dCons (dBin rIxD (dVar 1) (dC (.int 0))) dNil))) (hTup 2 (hCons (hTup 2 (hCons (hName 2) (hCons (hName 3) hNil))) (hCons (hTup 2 (hCons (hName 4) (hCons (hName 5) hNil))) hNil))))
def b_is_turned_less_2 : TSd := (dPar 6 7 (dCons (dFn0 sp_is_lower_half (dCons (dBin rIxD (dVar 0) (dC (.int 0))) dNil)) (dCons (dFn0 sp_is_lower_half (dCons (dBin rIxD (dVar 1) (dC (.int 0))) dNil)) dNil)))
def b_is_turned_less_3 : TSd := (dIfS (dTst (dBin rNeV (dVar 6) (dVar 7))) (dRet (dVar 7)) dNext)
def b_is_turned_less_4 : TSd := (dRet (dBin rGtD (dBin rSubD (dBin rMulD (dVar 2) (dVar 5)) (dBin rMulD (dVar 3) (dVar 4))) (dC (.int 0))))
def b_is_turned_less : TSd := (dSeq b_is_turned_less_1 (dSeq b_is_turned_less_2 (dSeq b_is_turned_less_3 b_is_turned_less_4)))
def b_in_turn_1 (F_is_turned_less : Addr) : TSd := (dDrop (dFn0 sp_check_point (dCons (dVar 0) dNil)))
def b_in_turn_2 (F_is_turned_less : Addr) : TSd := (dDrop (dFn0 sp_check_points (dCons (dVar 1) dNil)))
def b_in_turn_3 (F_is_turned_less : Addr) : TSd := (dFor (dEnum (dCons (dVar 1) dNil)) (hTup 2 (hCons (hName 2) (hCons (hName 3) hNil))) (dIfS (dTst (dBin rEqV (dVar 3) (dVar 0))) dNever dNext))
def b_in_turn_4 (F_is_turned_less : Addr) : TSd := (dAsg (dFn0 sp_scaled (dCons (dVar 0) dNil)) (hName 4))
def b_in_turn_5 (F_is_turned_less : Addr) : TSd := (dAsg (dLcP mkV (dEnum (dCons (dVar 1) dNil)) (Pat.tup [(Pat.nm 2), (Pat.nm 3)]) dYes (dTup (dCons (dFn0 sp_heading (dCons (dVar 4) (dCons (dFn0 sp_scaled (dCons (dVar 3) dNil)) dNil))) (dCons (dVar 2) dNil)))) (hName 5))
def b_in_turn_6 (F_is_turned_less : Addr) : TSd := (dRet (dCall cTuple (dCons (dLcP mkV (dIter (dFn0 (sp_sorted_by F_is_turned_less) (dCons (dVar 5) (dCons (dOwnG F_is_turned_less) dNil)))) (Pat.tup [(Pat.nm 6), (Pat.nm 2)]) dYes (dVar 2)) dNil)))
def b_in_turn (F_is_turned_less : Addr) : TSd := (dSeq (b_in_turn_1 F_is_turned_less) (dSeq (b_in_turn_2 F_is_turned_less) (dSeq (b_in_turn_3 F_is_turned_less) (dSeq (b_in_turn_4 F_is_turned_less) (dSeq (b_in_turn_5 F_is_turned_less) (b_in_turn_6 F_is_turned_less))))))
def b_l_half : TSd := (dRet (dIf (dOrT (dTst (dBin rGtD (dBin rIxD (dVar 0) (dC (.int 1))) (dC (.int 0)))) (dAndT (dTst (dBin rEqV (dBin rIxD (dVar 0) (dC (.int 1))) (dC (.int 0)))) (dTst (dBin rGtD (dBin rIxD (dVar 0) (dC (.int 0))) (dC (.int 0)))))) (dC (.int 0)) (dC (.int 1))))
def b_l_is_ahead_1 : TSd := (dPar 2 3 (dCons (dFn0 sp_l_half (dCons (dVar 0) dNil)) (dCons (dFn0 sp_l_half (dCons (dVar 1) dNil)) dNil)))
def b_l_is_ahead_2 : TSd := (dRet (dOr (dBin rLtD (dVar 2) (dVar 3)) (dAnd (dBin rEqV (dVar 2) (dVar 3)) (dBin rGtD (dBin rSubD (dBin rMulD (dBin rIxD (dVar 0) (dC (.int 0))) (dBin rIxD (dVar 1) (dC (.int 1)))) (dBin rMulD (dBin rIxD (dVar 0) (dC (.int 1))) (dBin rIxD (dVar 1) (dC (.int 0))))) (dC (.int 0))))))
def b_l_is_ahead : TSd := (dSeq b_l_is_ahead_1 b_l_is_ahead_2)
def b_by_lines_1 : TSd := (dAsg (dLst dNil) (hName 1))
def b_by_lines_2 : TSd := (dFor (dIter (dVar 0)) (hName 2) (dSeq (dAsg (dCall cLen (dCons (dVar 1) dNil)) (hName 3)) (dSeq (dWhile (dAndT (dTst (dBin rGtD (dVar 3) (dC (.int 0)))) (dTst (dFn0 sp_l_is_ahead (dCons (dBin rIxD (dVar 2) (dC (.int 0))) (dCons (dBin rIxD (dBin rIxD (dVar 1) (dBin rSubD (dVar 3) (dC (.int 1)))) (dC (.int 0))) dNil))))) (dAsg (dBin rSubD (dVar 3) (dC (.int 1))) (hName 3))) (dDrop (dIns (dVar 1) (dVar 3) (dVar 2))))))
def b_by_lines_3 : TSd := (dRet (dVar 1))
def b_by_lines : TSd := (dSeq b_by_lines_1 (dSeq b_by_lines_2 b_by_lines_3))
def b_others_1 : TSd := (dUnp 2 (dCons (dLst dNil) (dCons (dTup (dCons (dTup (dCons (dC (.int 1)) (dCons (dC (.int 0)) dNil))) (dCons (dTup (dCons (dC (.int 0)) (dCons (dC (.int 1)) dNil))) (dCons (dTup (dCons (dNeg (dC (.int 1))) (dCons (dC (.int 0)) dNil))) (dCons (dTup (dCons (dC (.int 0)) (dCons (dNeg (dC (.int 1))) dNil))) (dCons (dTup (dCons (dC (.int 1)) (dCons (dC (.int 1)) dNil))) (dCons (dTup (dCons (dNeg (dC (.int 2))) (dCons (dC (.int 1)) dNil))) (dCons (dTup (dCons (dNeg (dC (.int 1))) (dCons (dNeg (dC (.int 3))) dNil))) (dCons (dTup (dCons (dC (.int 2)) (dCons (dNeg (dC (.int 1))) dNil))) (dCons (dTup (dCons (dC (.int 1000)) (dCons (dC (.int 1)) dNil))) (dCons (dTup (dCons (dC (.int 1000)) (dCons (dNeg (dC (.int 1))) dNil))) dNil))))))))))) dNil)) (hCons (hName 3) (hCons (hName 4) hNil)))
def b_others_2 : TSd := (dAsg (dLcV (dRng1 (dCons (dC (.int 4)) dNil)) 6 dYes (dFn0 sp_one_of (dCons (dVar 0) (dCons (dVar 4) dNil)))) (hName 5))
def b_others_3 : TSd := (dFor (dRng1 (dCons (dIf (dTst (dBin rEqV (dFn0 sp_draw (dCons (dVar 0) (dCons (dC (.int 8)) dNil))) (dC (.int 0)))) (dC (.int 24)) (dFn0 sp_draw (dCons (dVar 0) (dCons (dC (.int 10)) dNil)))) dNil)) (hName 6) (dSeq (dIfS (dTst (dBin rGtD (dFn0 sp_draw (dCons (dVar 0) (dCons (dC (.int 3)) dNil))) (dC (.int 0)))) (dSeq (dAsg (dFn0 sp_one_of (dCons (dVar 0) (dCons (dVar 5) dNil))) (hTup 2 (hCons (hName 7) (hCons (hName 8) hNil)))) (dSeq (dPar 9 10 (dCons (dBin rAddD (dC (.int 1)) (dFn0 sp_draw (dCons (dVar 0) (dCons (dC (.int 3)) dNil)))) (dCons (dBin rAddD (dC (.int 1)) (dFn0 sp_draw (dCons (dVar 0) (dCons (dC (.int 3)) dNil)))) dNil))) (dAsg (dFn0 sp_place (dCons (dBin rAddD (dBin rMulD (dBin rIxD (dVar 2) (dC (.int 0))) (dVar 10)) (dBin rMulD (dBin rMulD (dVar 9) (dVar 7)) (dBin rIxD (dVar 2) (dC (.int 2))))) (dCons (dBin rAddD (dBin rMulD (dBin rIxD (dVar 2) (dC (.int 1))) (dVar 10)) (dBin rMulD (dBin rMulD (dVar 9) (dVar 8)) (dBin rIxD (dVar 2) (dC (.int 2))))) (dCons (dBin rMulD (dBin rIxD (dVar 2) (dC (.int 2))) (dVar 10)) dNil)))) (hName 11)))) (dAsg (dFn0 sp_own (dCons (dFn0 sp_dot (dCons (dVar 0) (dCons (dVar 1) dNil))) dNil)) (hName 11))) (dIfS (dTst (dBin rNeV (dVar 11) (dVar 2))) (dDrop (dApp (dVar 3) (dFn0 sp_told (dCons (dVar 11) dNil)))) dNext)))
def b_others_4 : TSd := (dRet (dVar 3))
def b_others : TSd := (dSeq b_others_1 (dSeq b_others_2 (dSeq b_others_3 b_others_4)))
def b_due_1 : TSd := (dAsg (dLst dNil) (hName 2))
def b_due_2 : TSd := (dFor (dEnum (dCons (dVar 1) dNil)) (hTup 2 (hCons (hName 3) (hCons (hName 4) hNil))) (dSeq (dAsg (dFn0 sp_own (dCons (dVar 4) dNil)) (hName 5)) (dDrop (dApp (dVar 2) (dTup (dCons (dTup (dCons (dBin rSubD (dBin rMulD (dBin rIxD (dVar 5) (dC (.int 0))) (dBin rIxD (dVar 0) (dC (.int 2)))) (dBin rMulD (dBin rIxD (dVar 0) (dC (.int 0))) (dBin rIxD (dVar 5) (dC (.int 2))))) (dCons (dBin rSubD (dBin rMulD (dBin rIxD (dVar 5) (dC (.int 1))) (dBin rIxD (dVar 0) (dC (.int 2)))) (dBin rMulD (dBin rIxD (dVar 0) (dC (.int 1))) (dBin rIxD (dVar 5) (dC (.int 2))))) dNil))) (dCons (dVar 3) dNil)))))))
def b_due_3 : TSd := (dRet (dCall cTuple (dCons (dLcV (dIter (dFn0 sp_by_lines (dCons (dVar 2) dNil))) 4 dYes (dBin rIxD (dVar 4) (dC (.int 1)))) dNil)))
def b_due : TSd := (dSeq b_due_1 (dSeq b_due_2 b_due_3))
def b_right_1 : TSd := (dAsg (dFn0 sp_frame (dCons (dVar 0) dNil)) (hName 1))
def b_right_2 : TSd := (dAsg (dFn0 sp_dot (dCons (dVar 0) (dCons (dVar 1) dNil))) (hName 2))
def b_right_3 : TSd := (dAsg (dFn0 sp_own (dCons (dVar 2) dNil)) (hName 3))
def b_right_4 : TSd := (dAsg (dCall cTuple (dCons (dFn0 sp_others (dCons (dVar 0) (dCons (dVar 1) (dCons (dVar 3) dNil)))) dNil)) (hName 4))
def b_right_5 : TSd := (dAsg (dRev (dVar 4)) (hName 5))
def b_right_6 : TSd := (dPar 6 7 (dCons (dFn0 sp_due (dCons (dVar 3) (dCons (dVar 4) dNil))) (dCons (dFn0 sp_due (dCons (dVar 3) (dCons (dVar 5) dNil))) dNil)))
def b_right_7 : TSd := (dAsg (dLstV (dCons (dFn0 sp_in_turn (dCons (dVar 2) (dCons (dVar 4) dNil))) (dCons (dFn0 sp_in_turn (dCons (dVar 2) (dCons (dVar 5) dNil))) (dCons (dFnK sp_in_turn [1, 0] (dCons (dVar 4) (dCons (dVar 2) dNil))) dNil)))) (hName 8))
def b_right_8 : TSd := (dRet (dBin rEqV (dCall cReprX (dCons (dVar 8) dNil)) (dCall cReprX (dCons (dLstV (dCons (dVar 6) (dCons (dVar 7) (dCons (dVar 6) dNil)))) dNil))))
def b_right : TSd := (dSeq b_right_1 (dSeq b_right_2 (dSeq b_right_3 (dSeq b_right_4 (dSeq b_right_5 (dSeq b_right_6 (dSeq b_right_7 b_right_8)))))))
def b_law : TSd := (dRet (dCall cAll (dCons (dLcV (dRng1 (dCons (dCall cMax (dCons (dC (.int 2)) (dCons (dCall cMin (dCons (dCall cLen (dCons (dVar 0) dNil)) (dCons (dC (.int 4)) dNil))) dNil))) dNil)) 1 dYes (dFn0 sp_right (dCons (dFn0 sp_spring (dCons (dVar 0) (dCons (dVar 1) dNil))) dNil))) dNil)))
end K04
local macro_rules | `(tactic| walk_at "val") => `(tactic| repeat' (first | exact DL.vls_nil | apply DL.vls_cons | exact DL.val_c | exact DL.val_dict | exact DL.val_neg | exact DL.val_var rfl | apply DL.val_tup | apply DL.val_lst | apply DL.val_lstV | exact DL.val_pow ⟨by decide, by decide, by decide⟩ | decide))
local macro_rules | `(tactic| walk_at "st") => `(tactic| simp only [DL.startD, List.map_cons, List.map_nil, List.length_cons, List.length_nil, Nat.reduceAdd, Nat.reduceSub, List.replicate_succ, List.replicate_zero, List.cons_append, List.nil_append, List.append_nil, Nat.sub_self, Nat.zero_add])
local macro_rules | `(tactic| walk_at "go") => `(tactic| simp only [↓DL.dSeq, ↓DL.dNext, ↓DL.dAsg, ↓DL.dRet, ↓DL.dRetN, ↓DL.dIfS, ↓DL.dDrop, ↓DL.dBin, ↓DL.dCons, ↓DL.dNil, ↓DL.dTup, ↓DL.dC, ↓DL.dNeg, ↓DL.dAnd, ↓DL.dOr, ↓DL.dNot, ↓DL.dIf, ↓DL.dTst, ↓DL.asB, ↓DL.dChain, ↓DL.dAndT, ↓DL.dOrT, ↓DL.dNotT, ↓DL.dCall, ↓DL.dFn0, ↓DL.dFnK, ↓DL.dIs, ↓DL.dSl, ↓DL.dNoP, ↓DL.dPart, ↓DL.dRev, ↓DL.dLst, ↓DL.dLstV, ↓DL.cListV, ↓DL.dDict, ↓DL.dPar, ↓DL.dPar3, ↓DL.tup2, ↓DL.tup3, ↓DL.tup4, ↓DL.tup5, ↓DL.tup22, ↓DL.tup12, ↓DL.hName, ↓DL.hSub, ↓DL.rI2, ↓DL.rSubD, ↓DL.rMulD, ↓DL.rMulX, ↓DL.rDivF, ↓DL.rDivD, ↓DL.rModD, ↓DL.rPowD, ↓DL.rLtD, ↓DL.rLeD, ↓DL.rGtD, ↓DL.rGeD, ↓DL.rAddD, ↓LB.trx0, ↓LB.trx1, ↓LB.trx2, ↓DL.ixt_0, ↓DL.ixt_1, ↓DL.ixt_2, ↓DL.ixt_3, ↓DL.ixt_4, ↓DL.ixl_0, ↓DL.ixl_1, ↓DL.ixl_2, ↓DL.ixl_3, ↓DL.ixl_4, ↓DL.rEqV, ↓DL.rNeV, ↓DL.rSlD, ↓DL.cLen, ↓DL.cAbs, ↓DL.cInt, ↓DL.cStrI, ↓DL.cDivmod, ↓DL.cMin, ↓DL.cMax, ↓DL.cGcd, ↓DL.cLcm, ↓DL.cAll, ↓DL.cRepr, ↓DL.cReprX, ↓DL.cList, ↓DL.cTuple, ↓DL.rC1, ↓DL.rC2, ↓DL.dNever, ↓DL.dIter, ↓DL.dRng1, ↓DL.dRng2, ↓DL.dYes,
  ↓DL.frz_d, ↓DL.var_zero, ↓DL.var_succ, ↓DL.var_set, ↓DL.var_ne, DL.own_some, DL.no_own2, DL.eqv_int, DL.sh_int, DL.sh_bool, DL.kit_int, DL.kit_bool, DL.kit_tuple, DL.kit_str, DL.is_int, DL.is_bool, DL.is_tuple, DL.is_str, DL.pures_nil, DL.pures_cons, Option.map_some, List.length_cons, List.length_nil, List.length_set, List.map_cons, List.map_nil, DL.pick, List.filterMap_cons, List.filterMap_nil,
  true_and, and_true, ite_true, ite_false, if_true, if_false, reduceIte, reduceCtorEq, ne_eq, not_false_eq_true, Nat.reduceAdd, Nat.reduceLT, Nat.reduceEqDiff, decide_eq_true_eq, Bool.not_true, Bool.not_false, Bool.false_eq_true, eq_self])
local macro_rules | `(tactic| walk_at "gk") => `(tactic| simp only [↓LB.sp_divisor, ↓LB.sp_part, ↓LB.sp_place, ↓LB.sp_is_whole, ↓LB.sp_l_is_whole, ↓LB.sp_is_row, ↓LB.sp_is_lot, ↓LB.sp_is_fraction, ↓LB.sp_l_is_fraction, ↓LB.sp_is_place, ↓LB.sp_is_point, ↓LB.sp_is_told, ↓LB.sp_told, ↓LB.sp_own, ↓LB.sp_side, ↓LB.sp_l_is_less, ↓LB.sp_l_lies_on, ↓LB.sp_l_sign, ↓LB.sp_sign, ↓LB.sp_scaled, ↓LB.sp_crossed, ↓LB.sp_along, ↓LB.sp_is_less, ↓DL.dSeq, ↓DL.dNext, ↓DL.dAsg, ↓DL.dRet, ↓DL.dRetN, ↓DL.dIfS, ↓DL.dDrop, ↓DL.dBin, ↓DL.dCons, ↓DL.dNil, ↓DL.dTup, ↓DL.dC, ↓DL.dNeg, ↓DL.dAnd, ↓DL.dOr, ↓DL.dNot, ↓DL.dIf, ↓DL.dTst, ↓DL.asB, ↓DL.dChain, ↓DL.dAndT, ↓DL.dOrT, ↓DL.dNotT, ↓DL.dCall, ↓DL.dFn0, ↓DL.dFnK, ↓DL.dIs, ↓DL.dSl, ↓DL.dNoP, ↓DL.dPart, ↓DL.dRev, ↓DL.dLst, ↓DL.dLstV, ↓DL.cListV, ↓DL.dDict, ↓DL.dPar, ↓DL.dPar3, ↓DL.tup2, ↓DL.tup3, ↓DL.tup4, ↓DL.tup5, ↓DL.tup22, ↓DL.tup12, ↓DL.hName, ↓DL.hSub, ↓DL.rI2, ↓DL.rSubD, ↓DL.rMulD, ↓DL.rMulX, ↓DL.rDivF, ↓DL.rDivD, ↓DL.rModD, ↓DL.rPowD, ↓DL.rLtD, ↓DL.rLeD, ↓DL.rGtD, ↓DL.rGeD, ↓DL.rAddD, ↓LB.trx0, ↓LB.trx1, ↓LB.trx2, ↓DL.ixt_0, ↓DL.ixt_1, ↓DL.ixt_2, ↓DL.ixt_3, ↓DL.ixt_4, ↓DL.ixl_0, ↓DL.ixl_1, ↓DL.ixl_2, ↓DL.ixl_3, ↓DL.ixl_4, ↓DL.rEqV, ↓DL.rNeV, ↓DL.rSlD, ↓DL.cLen, ↓DL.cAbs, ↓DL.cInt, ↓DL.cStrI, ↓DL.cDivmod, ↓DL.cMin, ↓DL.cMax, ↓DL.cGcd, ↓DL.cLcm, ↓DL.cAll, ↓DL.cRepr, ↓DL.cReprX, ↓DL.cList, ↓DL.cTuple, ↓DL.rC1, ↓DL.rC2, ↓DL.dNever, ↓DL.dIter, ↓DL.dRng1, ↓DL.dRng2, ↓DL.dYes,
  ↓DL.frz_d, ↓DL.var_zero, ↓DL.var_succ, ↓DL.var_set, ↓DL.var_ne, DL.own_some, DL.no_own2, DL.eqv_int, DL.sh_int, DL.sh_bool, DL.kit_int, DL.kit_bool, DL.kit_tuple, DL.kit_str, DL.is_int, DL.is_bool, DL.is_tuple, DL.is_str, DL.pures_nil, DL.pures_cons, Option.map_some, List.length_cons, List.length_nil, List.length_set, List.map_cons, List.map_nil, DL.pick, List.filterMap_cons, List.filterMap_nil,
  true_and, and_true, ite_true, ite_false, if_true, if_false, reduceIte, reduceCtorEq, ne_eq, not_false_eq_true, Nat.reduceAdd, Nat.reduceLT, Nat.reduceEqDiff, decide_eq_true_eq, Bool.not_true, Bool.not_false, Bool.false_eq_true, eq_self])
namespace K04
open PySem PySem.Spec PyProof.Rows L2 DL LB
theorem r_heading : ∀ ds st Q, sp_heading ds st Q → b_heading { nx := fun _ s' => Q (.d .none) s', rt := Q } (startD N_heading ds) st := by
  rintro ds st Q ⟨s, g, rfl, hs, hg, k⟩
  walk_at "st"
  unfold b_heading
  walk_at "go"
  exact ⟨mulW' hg.bx hs.bw, mulW' hs.bx hg.bw, mulW' hg.by_ hs.bw, mulW' hs.by_ hg.bw, big_ok (by decide), k⟩
theorem r_is_lower_half : ∀ ds st Q, sp_is_lower_half ds st Q → b_is_lower_half { nx := fun _ s' => Q (.d .none) s', rt := Q } (startD N_is_lower_half ds) st := by
  rintro ds st Q ⟨a, rfl, k⟩
  walk_at "st"
  unfold b_is_lower_half Dr.py
  walk_at "go"
  unfold lowD at k
  by_cases h : a.y < 0
  · rw [decide_eq_true h] at k
    rw [if_pos h]
    exact k
  · rw [decide_eq_false h] at k
    rw [if_neg h]
    by_cases h2 : a.y = 0
    · rw [decide_eq_true h2] at k
      rw [if_pos h2]
      exact k
    · rw [decide_eq_false h2] at k
      rw [if_neg h2]
      exact k
theorem r_l_half : ∀ ds st Q, sp_l_half ds st Q → b_l_half { nx := fun _ s' => Q (.d .none) s', rt := Q } (startD N_l_half ds) st := by
  rintro ds st Q ⟨a, rfl, k⟩
  walk_at "st"
  unfold b_l_half Dr.py
  walk_at "go"
  unfold halfI at k
  by_cases h : 0 < a.y
  · rw [if_pos h] at k
    first | (rw [if_pos h]; exact k) | (rw [if_pos (by simpa using h)]; exact k)
  · rw [if_neg h] at k
    rw [if_neg h]
    by_cases h2 : a.y = 0
    · rw [if_pos h2]
      by_cases h3 : 0 < a.x
      · rw [if_pos ⟨h2, h3⟩] at k
        rw [if_pos h3]
        exact k
      · rw [if_neg (fun z => h3 z.2)] at k
        rw [if_neg h3]
        exact k
    · rw [if_neg (fun z => h2 z.1)] at k
      rw [if_neg h2]
      exact k
theorem r_is_turned_less : ∀ ds st Q, sp_is_turned_less ds st Q → b_is_turned_less { nx := fun _ s' => Q (.d .none) s', rt := Q } (startD N_is_turned_less ds) st := by
  rintro ds st Q ⟨a, b, rfl, ha, hb, k⟩
  walk_at "st"
  unfold b_is_turned_less b_is_turned_less_1 b_is_turned_less_2 b_is_turned_less_3 b_is_turned_less_4 Rw.py Dr.py
  walk_at "go"
  refine ⟨big_ok (by decide), ?_⟩
  refine ⟨a.d, rfl, ?_⟩
  refine ⟨b.d, rfl, ?_⟩
  walk_at "go"
  have ev : PyData.eqv (.bool (lowD a.d)) (.bool (lowD b.d)) = decide (lowD a.d = lowD b.d) := by
    cases lowD a.d <;> cases lowD b.d <;> rfl
  rw [ev]
  unfold ltD at k
  by_cases c : lowD a.d = lowD b.d
  · rw [decide_eq_true c, if_neg (by decide)]
    rw [if_pos c] at k
    exact ⟨mulW' ha.bx hb.by_, mulW' ha.by_ hb.bx, k⟩
  · rw [decide_eq_false c, if_pos (by decide)]
    rw [if_neg c] at k
    exact k
theorem r_l_is_ahead : ∀ ds st Q, sp_l_is_ahead ds st Q → b_l_is_ahead { nx := fun _ s' => Q (.d .none) s', rt := Q } (startD N_l_is_ahead ds) st := by
  rintro ds st Q ⟨a, b, rfl, ha, hb, k⟩
  walk_at "st"
  unfold b_l_is_ahead b_l_is_ahead_1 b_l_is_ahead_2
  walk_at "go"
  refine ⟨a, rfl, ?_⟩
  refine ⟨b, rfl, ?_⟩
  unfold Dr.py
  walk_at "go"
  unfold ltL at k
  by_cases c : halfI a < halfI b
  · rw [if_pos c] at k ⊢
    exact k
  · rw [if_neg c] at k ⊢
    by_cases d : halfI a = halfI b
    · rw [decide_eq_true d, Bool.true_and] at k
      rw [if_pos d]
      exact ⟨mulW' ha.1 hb.2, mulW' ha.2 hb.1, k⟩
    · rw [decide_eq_false d, Bool.false_and] at k
      rw [if_neg d]
      exact k
theorem r_check_points : ∀ ds st Q, sp_check_points ds st Q → b_check_points { nx := fun _ s' => Q (.d .none) s', rt := Q } (startD N_check_points ds) st := by
  rintro ds st Q ⟨ps, rfl, hl, hp, k⟩
  walk_at "st"
  have ir : isRow 0 24 (.tuple (ps.map Pt.py)) = true := by
    show (decide ((0 : Int) ≤ ((ps.map Pt.py).length : Int)) && decide (((ps.map Pt.py).length : Int) ≤ 24)) = true
    rw [List.length_map, Bool.and_eq_true, decide_eq_true_iff, decide_eq_true_iff]
    omega
  refine ⟨_, rfl, ?_⟩
  show if (!isRow 0 24 (.tuple (ps.map Pt.py))) = true then _ else _
  rw [ir, if_neg (by decide)]
  show b_check_points_2 _ [some (.d (.tuple (ps.map Pt.py))), none, none] st
  refine ⟨_, rfl, fun j e st' => st' = st ∧ j ≤ ps.length ∧ ∃ t1 t2 : Option D, e = [some (.d (.tuple (ps.map Pt.py))), t1, t2], ⟨rfl, Nat.zero_le _, _, _, rfl⟩, ?_⟩
  rintro j e st' ⟨rfl, hj, t1, t2, rfl⟩
  refine ⟨(fun a ds z => nomatch z), fun hd => k, fun d hd => ?_⟩
  obtain ⟨x, hx, rfl⟩ := enum_get hd
  rw [List.getElem?_map] at hx
  cases hc : ps[j]? with
  | none =>
    rw [hc] at hx
    cases hx
  | some q =>
    rw [hc] at hx
    cases hx
    have hlt : j < ps.length := (List.getElem?_eq_some_iff.mp hc).1
    simp only [↓DL.tup2]
    refine ⟨_, rfl, ?_⟩
    show if (!isPl q.py) = true then _ else _
    rw [(hp q (List.mem_of_getElem? hc)).pl, if_neg (by decide)]
    exact ⟨rfl, hlt, _, _, rfl⟩
end K04
namespace K04
open PySem PySem.Spec PyProof.Rows L2 DL LB
theorem drop_at {α : Type} {l : List α} {i : Nat} {x : α} (h : l[i]? = some x) : l.drop i = x :: l.drop (i + 1) := by
  have hi := (List.getElem?_eq_some_iff.mp h).1
  rw [List.drop_eq_getElem_cons hi]
  rw [List.getElem?_eq_getElem hi] at h
  rw [Option.some.inj h]
theorem atI_row {l : List Rw} {i : Nat} {z : Rw} (h : l[i]? = some z) : atI (l.map Rw.py) (i : Int) = some z.py := atI_nat (j := i) (by rw [List.getElem?_map, h]; rfl)
theorem cutP_from {α : Type} {l : List α} {i : Nat} (h : i ≤ l.length) : cutP l (some (i : Int)) none = l.drop i := by
  have e1 : HT.sIx l.length 0 (some (i : Int)) = i := by
    show (if (i : Int) < 0 then ((i : Int) + ↑l.length).toNat else min (i : Int).toNat l.length) = i
    rw [if_neg (by omega)]
    omega
  have e2 : HT.sIx l.length l.length none = l.length := rfl
  unfold cutP
  rw [e1, e2]
  exact List.take_of_length_le (by rw [List.length_drop]; omega)
theorem cutP_to {α : Type} {l : List α} {i : Nat} (h : i ≤ l.length) : cutP l none (some (i : Int)) = l.take i := by
  have e1 : HT.sIx l.length l.length (some (i : Int)) = i := by
    show (if (i : Int) < 0 then ((i : Int) + ↑l.length).toNat else min (i : Int).toNat l.length) = i
    rw [if_neg (by omega)]
    omega
  have e2 : HT.sIx l.length 0 none = 0 := rfl
  unfold cutP
  rw [e1, e2]
  rfl
theorem sub_off {st : Sto} {b : Addr} {xs : List D} (hb : st b = none) : Sub st (put st b xs) := fun a => by
  by_cases h : a = b
  · right
    rw [h]
    exact hb
  · left
    rw [put_ne h]
theorem atD_row {l : List Rw} {i : Nat} {z : Rw} (h : l[i]? = some z) : atI ((l.map Rw.py).map D.d) (i : Int) = some (D.d z.py) := atI_nat (j := i) (by rw [List.getElem?_map, List.getElem?_map, h]; rfl)
theorem r_merged (F : Addr) : ∀ ds st Q, sp_merged F ds st Q → b_merged F sp_is_turned_less { nx := fun _ s' => RQ Q (.d .none) s', rt := RQ Q } (startD N_merged ds) st := by
  rintro ds st Q ⟨ls, rs, rfl, hls, hrs, ll, lr, pl, pr, hi, k⟩
  walk_at "st"
  refine ⟨big_ok (by show 0 ≤ 3000; decide), .inr fun b hb => .inl ?_⟩
  show dSeq (b_merged_2 F sp_is_turned_less) (dSeq (b_merged_3 F sp_is_turned_less) (b_merged_4 F sp_is_turned_less)) _ [some (.d (.list (ls.map Rw.py))), some (.d (.list (rs.map Rw.py))), some (.own F), some (.own b), none, none] (put st b [])
  refine .inl ?_
  -- the loop
  refine ⟨fun m e st' => ∃ (i j : Nat) (out : List Rw), m = (ls.length - i) + (rs.length - j) ∧ i ≤ ls.length ∧ j ≤ rs.length ∧ e = [some (.d (.list (ls.map Rw.py))), some (.d (.list (rs.map Rw.py))), some (.own F), some (.own b), some (I i), some (I j)] ∧ st' = put st b (out.map fun z => .d z.py)
    ∧ out.length = i + j ∧ (∀ t, t ∈ out ↔ t ∈ ls.take i ∨ t ∈ rs.take j) ∧ out.Pairwise Rw.lt ∧ (∀ a ∈ out, ∀ c, c ∈ ls.drop i ∨ c ∈ rs.drop j → a.lt c), ⟨_, 0, 0, [], rfl, Nat.zero_le _, Nat.zero_le _, rfl, rfl, rfl, by simp, List.Pairwise.nil, by simp⟩, ?_⟩
  rintro m e st' ⟨i, j, out, rfl, hil, hjr, rfl, rfl, hlen, hmem, hpw, hlt⟩
  have exit : (ls.length ≤ i ∨ rs.length ≤ j) → b_merged_4 F sp_is_turned_less { nx := fun _ s' => RQ Q (.d .none) s', rt := RQ Q } [some (.d (.list (ls.map Rw.py))), some (.d (.list (rs.map Rw.py))), some (.own F), some (.own b), some (I i), some (I j)] (put st b (out.map fun z => .d z.py)) := by
    intro hend
    have l1 : (cutP (ls.map Rw.py) (some (i : Int)) none) = (ls.drop i).map Rw.py := by
      rw [cutP_from (by rw [List.length_map]; exact hil), List.map_drop]
    have l2 : (cutP (rs.map Rw.py) (some (j : Int)) none) = (rs.drop j).map Rw.py := by
      rw [cutP_from (by rw [List.length_map]; exact hjr), List.map_drop]
    have eo : (out.map fun z => D.d z.py) = (out.map Rw.py).map D.d := by rw [List.map_map]; rfl
    refine ⟨_, rfl, _, rfl, _, rfl, ?_⟩
    show rAddD (.own b) (.d (.list (cutP (ls.map Rw.py) (some (i : Int)) none))) _ _
    rw [l1]
    refine ⟨_, _, put_same, rfl, ?_, .inl ⟨out.map Rw.py ++ (ls.drop i).map Rw.py, ?_, ?_⟩⟩
    · rw [List.length_map, List.length_map, List.length_map, List.length_drop]
      exact big_ok (by omega)
    · rw [eo, ← List.map_append]
      exact pures_map _
    refine ⟨_, rfl, _, rfl, ?_⟩
    show rAddD (.d (.list (out.map Rw.py ++ (ls.drop i).map Rw.py))) (.d (.list (cutP (rs.map Rw.py) (some (j : Int)) none))) _ _
    rw [l2]
    refine ⟨?_, .inl ⟨st, sub_off hb, ?_⟩⟩
    · rw [List.length_append, List.length_map, List.length_map, List.length_map, List.length_drop, List.length_drop]
      exact big_ok (by omega)
    · rw [← List.map_append, ← List.map_append]
      refine k _ (fun t => ?_) ?_ ?_
      · rw [List.mem_append, List.mem_append, hmem]
        have m1 : t ∈ ls ↔ t ∈ ls.take i ∨ t ∈ ls.drop i := by rw [← List.mem_append, List.take_append_drop]
        have m2 : t ∈ rs ↔ t ∈ rs.take j ∨ t ∈ rs.drop j := by rw [← List.mem_append, List.take_append_drop]
        rw [m1, m2]
        constructor
        · rintro (((h | h) | h) | h)
          · exact .inl (.inl h)
          · exact .inr (.inl h)
          · exact .inl (.inr h)
          · exact .inr (.inr h)
        · rintro ((h | h) | (h | h))
          · exact .inl (.inl (.inl h))
          · exact .inl (.inr h)
          · exact .inl (.inl (.inr h))
          · exact .inr h
      · refine List.pairwise_append.mpr ⟨List.pairwise_append.mpr ⟨hpw, pl.sublist (List.drop_sublist _ _), fun a ha c hc => hlt a ha c (.inl hc)⟩, pr.sublist (List.drop_sublist _ _), fun a ha c hc => ?_⟩
        rcases List.mem_append.mp ha with h | h
        · exact hlt a h c (.inr hc)
        · exfalso
          rcases hend with e | e
          · rw [List.drop_of_length_le e] at h
            exact List.not_mem_nil h
          · rw [List.drop_of_length_le e] at hc
            exact List.not_mem_nil hc
      · rw [List.length_append, List.length_append, List.length_drop, List.length_drop]
        omega
  refine ⟨_, rfl, _, rfl, _, rfl, trivial, ?_⟩
  show if decide ((i : Int) < (((ls.map Rw.py).map D.d).length : Nat)) = true then _ else _
  by_cases hi' : i < ls.length
  · rw [if_pos (decide_eq_true (by rw [List.length_map, List.length_map]; omega))]
    refine ⟨_, rfl, _, rfl, _, rfl, trivial, ?_⟩
    show if decide ((j : Int) < (((rs.map Rw.py).map D.d).length : Nat)) = true then _ else _
    by_cases hj' : j < rs.length
    · rw [if_pos (decide_eq_true (by rw [List.length_map, List.length_map]; omega))]
      obtain ⟨lz, hlz⟩ : ∃ z, ls[i]? = some z := ⟨_, List.getElem?_eq_getElem hi'⟩
      obtain ⟨rz, hrz⟩ : ∃ z, rs[j]? = some z := ⟨_, List.getElem?_eq_getElem hj'⟩
      have lm := List.mem_of_getElem? hlz
      have rm := List.mem_of_getElem? hrz
      have okl := hls lz lm
      have okr := hrs rz rm
      have dl := drop_at hlz
      have dr := drop_at hrz
      have okd : ∀ c, c ∈ ls ∨ c ∈ rs → c.d.nz := fun c hc => hc.elim (fun h => (hls c h).nz) (fun h => (hrs c h).nz)
      have pld : ∀ c ∈ ls.drop (i + 1), lz.lt c := by
        have := pl.sublist (List.drop_sublist i ls)
        rw [dl, List.pairwise_cons] at this
        exact this.1
      have prd : ∀ c ∈ rs.drop (j + 1), rz.lt c := by
        have := pr.sublist (List.drop_sublist j rs)
        rw [dr, List.pairwise_cons] at this
        exact this.1
      have tl : ls.take (i + 1) = ls.take i ++ [lz] := by rw [List.take_add_one, hlz]; rfl
      have tr : rs.take (j + 1) = rs.take j ++ [rz] := by rw [List.take_add_one, hrz]; rfl
      have lo : ((out.map fun z => D.d z.py) : List D).length < sizeLine := by
        rw [List.length_map]
        exact Nat.lt_of_le_of_lt (show out.length ≤ 200 by omega) (by decide)
      have em : ∀ z : Rw, (out.map fun z => D.d z.py) ++ [D.d z.py] = (out ++ [z]).map fun z => D.d z.py := fun z => by rw [List.map_append]; rfl
      refine ⟨rfl, _, rfl, _, rfl, _, _, rfl, atD_row hrz, _, rfl, _, rfl, _, _, rfl, atD_row hlz, ?_⟩
      refine ⟨rz, lz, rfl, okr, okl, ?_⟩
      show if ltD rz.d lz.d = true then _ else _
      by_cases c : ltD rz.d lz.d = true
      · rw [if_pos c]
        refine ⟨_, rfl, by rw [put_same]; rfl, _, rfl, _, rfl, _, _, rfl, atD_row hrz, _, put_same, lo, ?_⟩
        refine ⟨_, rfl, ?_⟩
        refine ⟨(ls.length - i) + (rs.length - (j + 1)), by omega, i, j + 1, out ++ [rz], rfl, hil, hj', rfl, by rw [put_put, em], by rw [List.length_append, hlen]; simp; omega, fun t => ?_, ?_, ?_⟩
        · rw [List.mem_append, hmem, tr, List.mem_append, List.mem_singleton]
          constructor
          · rintro ((h | h) | h)
            · exact .inl h
            · exact .inr (.inl h)
            · exact .inr (.inr h)
          · rintro (h | h | h)
            · exact .inl (.inl h)
            · exact .inl (.inr h)
            · exact .inr h
        · refine List.pairwise_append.mpr ⟨hpw, List.pairwise_singleton _ _, fun a ha b hb => ?_⟩
          rw [List.mem_singleton.mp hb]
          exact hlt a ha rz (.inr (by rw [dr]; exact List.mem_cons_self))
        · intro a ha e he
          rcases List.mem_append.mp ha with h | h
          · refine hlt a h e (he.imp_right fun z => ?_)
            rw [dr]
            exact List.mem_cons_of_mem _ z
          · rw [List.mem_singleton.mp h]
            have r1 : rz.lt lz := Rw.of_lt c
            rcases he with z | z
            · rw [dl] at z
              rcases List.mem_cons.mp z with y | y
              · rw [y]
                exact r1
              · exact Rw.lt_trans okr.nz okl.nz (okd e (.inl (List.mem_of_mem_drop y))) r1 (pld e y)
            · exact prd e z
      · rw [if_neg c]
        refine ⟨_, rfl, by rw [put_same]; rfl, _, rfl, _, rfl, _, _, rfl, atD_row hlz, _, put_same, lo, ?_⟩
        refine ⟨_, rfl, ?_⟩
        refine ⟨(ls.length - (i + 1)) + (rs.length - j), by omega, i + 1, j, out ++ [lz], rfl, hi', hjr, rfl, by rw [put_put, em], by rw [List.length_append, hlen]; simp; omega, fun t => ?_, ?_, ?_⟩
        · rw [List.mem_append, hmem, tl, List.mem_append, List.mem_singleton]
          constructor
          · rintro ((h | h) | h)
            · exact .inl (.inl h)
            · exact .inr h
            · exact .inl (.inr h)
          · rintro ((h | h) | h)
            · exact .inl (.inl h)
            · exact .inr h
            · exact .inl (.inr h)
        · refine List.pairwise_append.mpr ⟨hpw, List.pairwise_singleton _ _, fun a ha b hb => ?_⟩
          rw [List.mem_singleton.mp hb]
          exact hlt a ha lz (.inl (by rw [dl]; exact List.mem_cons_self))
        · intro a ha e he
          rcases List.mem_append.mp ha with h | h
          · refine hlt a h e (he.imp_left fun z => ?_)
            rw [dl]
            exact List.mem_cons_of_mem _ z
          · rw [List.mem_singleton.mp h]
            have r1 : lz.lt rz := Rw.of_idx (by simpa using c) (hi lz lm rz rm)
            rcases he with z | z
            · exact pld e z
            · rw [dr] at z
              rcases List.mem_cons.mp z with y | y
              · rw [y]
                exact r1
              · exact Rw.lt_trans okl.nz okr.nz (okd e (.inr (List.mem_of_mem_drop y))) r1 (prd e y)
    · rw [if_neg (by rw [List.length_map, List.length_map]; simp; omega)]
      exact exit (.inr (by omega))
  · rw [if_neg (by rw [List.length_map, List.length_map]; simp; omega)]
    exact exit (.inl (by omega))
end K04
namespace K04
open PySem PySem.Spec PyProof.Rows L2 DL LB
theorem r_sorted_by (F : Addr) (j : Nat) (self : SpD) (hs : ∀ m, j = m + 1 → ∀ ds st Q, sp_sorted_byK F m ds st Q → self ds st Q) : ∀ ds st Q, sp_sorted_byK F j ds st Q → b_sorted_by self F { nx := fun _ s' => Q (.d .none) s', rt := Q } (startD N_sorted_by ds) st := by
  rintro ds st Q ⟨ls, rfl, hok, hj, hl, hi, k⟩
  walk_at "st"
  refine ⟨_, rfl, _, rfl, trivial, ?_⟩
  show if decide ((((ls.map Rw.py).map D.d).length : Int) < 2) = true then _ else _
  have el : ((ls.map Rw.py).map D.d).length = ls.length := by rw [List.length_map, List.length_map]
  rw [el]
  by_cases h2 : ls.length < 2
  · rw [if_pos (decide_eq_true (by omega))]
    refine ⟨_, rfl, ?_⟩
    refine .inl (k ls (fun t => Iff.rfl) ?_ rfl)
    match ls, h2 with
    | [], _ => exact List.Pairwise.nil
    | [_], _ => exact List.pairwise_singleton _ _
  · rw [if_neg (by simp; omega)]
    cases j with
    | zero => exact absurd hj (by simp; omega)
    | succ m =>
      refine ⟨_, rfl, _, rfl, divW (n := 3) (by decide) (by show (2 : Int).natAbs < 2 ^ 3; decide) (by decide) (by decide), .inl ?_⟩
      show b_sorted_by_3 self F _ [some (.d (.list (ls.map Rw.py))), some (.own F), some (I ((((ls.map Rw.py).map D.d).length : Int) / 2))] st
      rw [el]
      have em : ((ls.length : Int) / 2) = ((ls.length / 2 : Nat) : Int) := by omega
      rw [em]
      have p2 : 2 ^ (m + 1) = 2 * 2 ^ m := by rw [Nat.pow_succ]; omega
      generalize hmid : ls.length / 2 = mid at *
      have lt1 : (ls.take mid).length = mid := by rw [List.length_take]; omega
      have ld1 : (ls.drop mid).length = ls.length - mid := List.length_drop
      have c1 : cutP (ls.map Rw.py) none (some (mid : Int)) = (ls.take mid).map Rw.py := by
        rw [cutP_to (by rw [List.length_map]; omega), List.map_take]
      have c2 : cutP (ls.map Rw.py) (some (mid : Int)) none = (ls.drop mid).map Rw.py := by
        rw [cutP_from (by rw [List.length_map]; omega), List.map_drop]
      have split : ∀ t, t ∈ ls ↔ t ∈ ls.take mid ∨ t ∈ ls.drop mid := fun t => by rw [← List.mem_append, List.take_append_drop]
      have hcross : ∀ a ∈ ls.take mid, ∀ c ∈ ls.drop mid, a.i < c.i := by
        have := hi
        rw [← List.take_append_drop mid ls] at this
        exact (List.pairwise_append.mp this).2.2
      refine ⟨_, rfl, _, rfl, _, rfl, ?_⟩
      refine hs m rfl _ _ _ ⟨ls.take mid, by rw [c1], fun z hz => hok z (List.mem_of_mem_take hz), by omega, by omega, hi.sublist (List.take_sublist _ _), fun lo lm lp ll => ?_⟩
      refine ⟨_, rfl, _, rfl, _, rfl, ?_⟩
      refine hs m rfl _ _ _ ⟨ls.drop mid, by rw [c2], fun z hz => hok z (List.mem_of_mem_drop hz), by omega, by omega, hi.sublist (List.drop_sublist _ _), fun ro rm rp rl => ?_⟩
      refine ⟨_, rfl, lo, ro, rfl, fun z hz => hok z (List.mem_of_mem_take ((lm z).mp hz)), fun z hz => hok z (List.mem_of_mem_drop ((rm z).mp hz)), by omega, by omega, lp, rp, fun a ha c hc => hcross a ((lm a).mp ha) c ((rm c).mp hc), fun out om op ol => .inl ?_⟩
      exact k out (fun t => by rw [om, lm, rm, split]) op (by omega)
end K04
namespace K04
open PySem PySem.Spec PyProof.Rows L2 DL LB
theorem lcP_map {α : Type} {ti : TId} {p : Pat} {te : TEd} {e : Ed} {st : Sto} {Q : Kd} (zs : List α) (g f : α → PyData) (hti : ∀ R : ItD → Sto → Prop, R ⟨zs.map fun z => .d (g z), none⟩ st → ti e st R) (hl : zs.length < sizeLine)
    (hf : ∀ z ∈ zs, ∀ K : Kd, K (.d (f z)) st → ∃ e', setP p (g z) e = some e' ∧ te e' st K) (q : Q (.d (.list (zs.map f))) st) : dLcP mkV ti p dYes te e st Q := by
  refine hti _ ⟨fun j acc st' => st' = st ∧ j ≤ zs.length ∧ acc = (zs.take j).map fun z => D.d (f z), ⟨rfl, Nat.zero_le _, rfl⟩, ?_⟩
  rintro j acc st' ⟨rfl, hj, rfl⟩
  refine ⟨(fun a ds z => nomatch z), fun hd => ?_, fun d hd => ?_⟩
  · have hd : (zs.map fun z => D.d (g z)).length ≤ j := hd
    rw [List.length_map] at hd
    rw [List.take_of_length_le hd]
    refine ⟨zs.map f, ?_, q⟩
    rw [show (zs.map fun z => D.d (f z)) = (zs.map f).map D.d by rw [List.map_map]; rfl]
    exact pures_map _
  · have hd : (zs.map fun z => D.d (g z))[j]? = some d := hd
    rw [List.getElem?_map] at hd
    cases hc : zs[j]? with
    | none =>
      rw [hc] at hd
      cases hd
    | some z =>
      rw [hc] at hd
      cases hd
      have hlt : j < zs.length := (List.getElem?_eq_some_iff.mp hc).1
      obtain ⟨e', h1, h2⟩ := hf z (List.mem_of_getElem? hc) (fun y st4 => ((zs.take j).map fun z => D.d (f z)).length < sizeLine ∧ (st4 = st' ∧ j + 1 ≤ zs.length ∧ ((zs.take j).map fun z => D.d (f z)) ++ [y] = (zs.take (j + 1)).map fun z => D.d (f z))) ⟨by
          rw [List.length_map, List.length_take]
          omega, rfl, hlt, by
          rw [List.take_add_one, hc, List.map_append]
          rfl⟩
      refine ⟨_, e', rfl, h1, ?_⟩
      refine (show dYes e' st' (fun b s2 => if b = true then te e' s2 _ else _) from ?_)
      exact h2
theorem enum_map {ps : List Pt} (p : Pt) : ((List.range (ps.map Pt.py).length).zipWith (fun (i : Nat) x => D.d (.tuple [.int i, x])) (ps.map Pt.py)) = (List.range ps.length).map fun (i : Nat) => D.d (.tuple [.int (i : Int), (ps.getD i p).py]) := by
  refine List.ext_getElem? fun i => ?_
  rw [List.getElem?_zipWith, List.getElem?_map, List.getElem?_map, List.length_map]
  by_cases h : i < ps.length
  · rw [List.getElem?_range h, List.getElem?_eq_getElem h]
    simp [List.getD, List.getElem?_eq_getElem h]
  · rw [List.getElem?_eq_none (by simpa using h), List.getElem?_eq_none (by simpa using h)]
    simp
def rowS (p : Pt) (ps : List Pt) (i : Nat) : Rw := ⟨dirT (scT p) (scT (ps.getD i p)), i⟩
theorem getD_mem {ps : List Pt} {p : Pt} {i : Nat} (h : i < ps.length) : ps.getD i p ∈ ps := by
  rw [List.getD_eq_getElem?_getD, List.getElem?_eq_getElem h]
  exact List.getElem_mem h
theorem rows_turn {p : Pt} {ps : List Pt} (row : Nat → Rw) (hr : ∀ i, (row i).i = i) (ha : ∀ i, i < ps.length → Along (row i).d (rowL p ps i).d) {out : List Rw} (hm : ∀ t, t ∈ out ↔ t ∈ (List.range ps.length).map row) (hp : out.Pairwise Rw.lt) (hlen : out.length = ((List.range ps.length).map row).length) : Turn p ps (out.map (·.i)) := by
  have back : ∀ t ∈ out, t.i < ps.length ∧ t = row t.i := fun t ht => by
    obtain ⟨i, hi, e⟩ := List.mem_map.mp ((hm t).mp ht)
    rw [← e, hr]
    exact ⟨List.mem_range.mp hi, rfl⟩
  refine ⟨fun i => ?_, ?_, by rw [List.length_map, hlen, List.length_map, List.length_range]⟩
  · rw [List.mem_map]
    constructor
    · rintro ⟨t, ht, rfl⟩
      exact (back t ht).1
    · intro h
      exact ⟨row i, (hm _).mpr (List.mem_map.mpr ⟨i, List.mem_range.mpr h, rfl⟩), hr i⟩
  · rw [List.pairwise_map]
    refine hp.imp_of_mem fun {a b} ha' hb' h => ?_
    obtain ⟨ia, ea⟩ := back a ha'
    obtain ⟨ib, eb⟩ := back b hb'
    have k1 := lt_along (ha _ ia) (ha _ ib)
    have k2 := lt_along (ha _ ib) (ha _ ia)
    rw [← ea, ← eb] at k1 k2
    refine ⟨k2 ▸ h.1, fun z => h.2 (k1.trans z)⟩
theorem r_in_turn (F : Addr) : ∀ ds st Q, sp_in_turn ds st Q → b_in_turn F { nx := fun _ s' => Q (.d .none) s', rt := Q } (startD N_in_turn ds) st := by
  rintro ds st Q ⟨p, ps, rfl, hp, hps, hne, hl, k⟩
  walk_at "st"
  refine ⟨_, rfl, p, rfl, hp.ok, ?_⟩
  refine ⟨_, rfl, ps, rfl, hl, fun q hq => (hps q hq).ok, ?_⟩
  show dSeq (b_in_turn_3 F) _ _ [some (.d p.py), some (.d (.tuple (ps.map Pt.py))), none, none, none, none, none] st
  refine ⟨_, rfl, fun j e st' => st' = st ∧ j ≤ ps.length ∧ ∃ t1 t2 : Option D, e = [some (.d p.py), some (.d (.tuple (ps.map Pt.py))), t1, t2, none, none, none], ⟨rfl, Nat.zero_le _, _, _, rfl⟩, ?_⟩
  rintro j e st' ⟨rfl, hj, t1, t2, rfl⟩
  refine ⟨(fun a ds z => nomatch z), fun hd => ?_, fun d hd => ?_⟩
  · show dSeq (b_in_turn_4 F) (dSeq (b_in_turn_5 F) (b_in_turn_6 F)) _ [some (.d p.py), some (.d (.tuple (ps.map Pt.py))), t1, t2, none, none, none] st'
    have up : ∀ {t : Tr} {a b : Nat}, B a t.x ∧ B a t.y ∧ B b t.w → 0 < t.w → a ≤ 2000 → b ≤ 2000 → t.Ok 2000 := fun h w h1 h2 => ⟨w, B_mono h.1 h1, B_mono h.2.1 h1, B_mono h.2.2 h2⟩
    refine ⟨_, rfl, hp.hb, hp.hd, hp.ok.ba, hp.ok.bb, hp.ok.bc, hp.ok.bd, .inl ?_⟩
    show dSeq (b_in_turn_5 F) (b_in_turn_6 F) _ [some (.d p.py), some (.d (.tuple (ps.map Pt.py))), t1, t2, some (.d (scT p).py), none, none] st'
    refine lcP_map (List.range ps.length) (fun i => .tuple [.int i, (ps.getD i p).py]) (fun i => (rowS p ps i).py) (fun R hR => ⟨_, rfl, by have h := hR; rw [← enum_map p] at h; exact h⟩) (by rw [List.length_range]; exact Nat.lt_of_le_of_lt hl (by decide)) (fun i hi K hK => ?_) (.inl ?_)
    · have sq := hps _ (getD_mem (p := p) (List.mem_range.mp hi))
      refine ⟨_, rfl, _, rfl, _, rfl, sq.hb, sq.hd, sq.ok.ba, sq.ok.bb, sq.ok.bc, sq.ok.bd, ?_⟩
      refine ⟨scT p, scT (ps.getD i p), rfl, up (scS_B hp) hp.ok.rel.hw (by decide) (by decide), up (scS_B sq) sq.ok.rel.hw (by decide) (by decide), ?_⟩
      exact ⟨_, rfl, big_ok (by show 2 ≤ 3000; decide), hK⟩
    show b_in_turn_6 F _ [some (.d p.py), some (.d (.tuple (ps.map Pt.py))), t1, t2, some (.d (scT p).py), some (.d (.list ((List.range ps.length).map fun i => (rowS p ps i).py))), none] st'
    have em : ((List.range ps.length).map fun i => (rowS p ps i).py) = ((List.range ps.length).map (rowS p ps)).map Rw.py := by rw [List.map_map]; rfl
    rw [em]
    refine ⟨_, rfl, (List.range ps.length).map (rowS p ps), rfl, ?_, ?_, ?_, ?_, fun out hm hpw hlen => ?_⟩
    · intro z hz
      obtain ⟨i, hi, rfl⟩ := List.mem_map.mp hz
      have mq := getD_mem (p := p) (List.mem_range.mp hi)
      have sq := hps _ mq
      have b1 := scS_B hp
      have b2 := scS_B sq
      have s : ∀ {i j i' j' : Int}, B 330 i → B 220 j → B 330 i' → B 220 j' → B 5000 (i * j - i' * j') := fun a b c d => B_sub (a := 550) (b := 550) (B_mul a b (by decide)) (B_mul c d (by decide)) (by decide) (by decide)
      exact ⟨s b2.1 b1.2.2 b1.1 b2.2.2, s b2.2.1 b1.2.2 b1.2.1 b2.2.2, dir_nz hp.ok sq.ok hp.ok.rel sq.ok.rel (hne _ mq).symm⟩
    · rw [List.length_map, List.length_range]
      exact Nat.le_trans hl (by decide)
    · rw [List.length_map, List.length_range]
      omega
    · rw [List.pairwise_map]
      exact List.pairwise_lt_range
    · have T := rows_turn (p := p) (ps := ps) (rowS p ps) (fun _ => rfl) (fun i hi => dir_along hp.ok.rel (rel_own hp.hb hp.hd) (hps _ (getD_mem (p := p) hi)).ok.rel (rel_own (hps _ (getD_mem (p := p) hi)).hb (hps _ (getD_mem (p := p) hi)).hd)) hm hpw hlen
      have lo : out.length ≤ 24 := by
        rw [hlen, List.length_map, List.length_range]
        exact hl
      refine (show dLcP mkV (fun _ st R => R ⟨(out.map Rw.py).map D.d, none⟩ st) _ dYes (dVar 2) [some (.d p.py), some (.d (.tuple (ps.map Pt.py))), t1, t2, some (.d (scT p).py), some (.d (.list (((List.range ps.length).map (rowS p ps)).map Rw.py))), none] st' _ from ?_)
      refine lcP_map out Rw.py (fun z => .int z.i) (fun R hR => by rw [List.map_map]; exact hR) (Nat.lt_of_le_of_lt lo (by decide)) (fun z hz K hK => ⟨_, rfl, _, rfl, hK⟩) ?_
      refine ⟨_, rfl, .inl ?_⟩
      have := k _ T
      unfold idxs at this
      rw [List.map_map] at this
      exact this
  · obtain ⟨x, hx, rfl⟩ := enum_get hd
    rw [List.getElem?_map] at hx
    cases hc : ps[j]? with
    | none =>
      rw [hc] at hx
      cases hx
    | some q =>
      rw [hc] at hx
      cases hx
      have hlt : j < ps.length := (List.getElem?_eq_some_iff.mp hc).1
      simp only [↓DL.tup2]
      refine ⟨_, rfl, _, rfl, pt_sh, pt_sh, ?_⟩
      rw [pt_eqv, decide_eq_false (hne q (List.mem_of_getElem? hc))]
      exact ⟨rfl, hlt, _, _, rfl⟩
end K04
namespace K04
open PySem PySem.Spec PyProof.Rows L2 DL LB
theorem cut_put {st : Sto} {b : Addr} {xs : List D} (hb : st b = none) : cut (put st b xs) b = st := by
  funext a
  by_cases h : a = b
  · rw [h, cut_same, hb]
  · rw [cut_ne h, put_ne h]
theorem r_by_lines : ∀ ds st Q, sp_by_lines ds st Q → b_by_lines { nx := fun _ s' => Q (.d .none) s', rt := Q } (startD N_by_lines ds) st := by
  rintro ds st Q ⟨a, ls, rfl, hst, hok, hl, hi, k⟩
  walk_at "st"
  refine ⟨big_ok (by show 0 ≤ 3000; decide), .inr fun b hb => .inl ?_⟩
  have ba : b ≠ a := by
    intro e
    rw [e, hst] at hb
    cases hb
  show dSeq b_by_lines_2 b_by_lines_3 _ [some (.own a), some (.own b), none, none] (put st b [])
  refine ⟨_, rfl, _, (put_ne ba.symm).trans hst, fun j e st' => j ≤ ls.length ∧ ∃ (found : List Rw) (t2 t3 : Option D), e = [some (.own a), some (.own b), t2, t3] ∧ st' = put st b (found.map fun z => .d z.py) ∧ found.length = j ∧ (∀ t, t ∈ found ↔ t ∈ ls.take j) ∧ found.Pairwise Rw.lt, ⟨Nat.zero_le _, [], _, _, rfl, rfl, rfl, by simp, List.Pairwise.nil⟩, ?_⟩
  rintro j e st' ⟨hj, found, t2, t3, rfl, rfl, hlen, hmem, hpw⟩
  refine ⟨(fun a' ds z => by
    cases z
    exact (put_ne ba.symm).trans hst), fun hd => ?_, fun d hd => ?_⟩
  · have hd : (ls.map fun z => D.d z.py).length ≤ j := hd
    rw [List.length_map] at hd
    refine ⟨_, rfl, .inr ⟨b, found.map Rw.py, rfl, by rw [put_same, List.map_map]; rfl, ?_⟩⟩
    rw [cut_put hb]
    refine k found (fun t => ?_) hpw (by omega)
    rw [hmem, List.take_of_length_le hd]
  · have hd : (ls.map fun z => D.d z.py)[j]? = some d := hd
    rw [List.getElem?_map] at hd
    cases hc : ls[j]? with
    | none =>
      rw [hc] at hd
      cases hd
    | some z =>
      rw [hc] at hd
      cases hd
      have hlt : j < ls.length := (List.getElem?_eq_some_iff.mp hc).1
      have zm := List.mem_of_getElem? hc
      have okz := hok z zm
      have fok : ∀ x ∈ found, RwOk x ∧ x.i < z.i := fun x hx => by
        have hx' := (hmem x).mp hx
        refine ⟨hok x (List.mem_of_mem_take hx'), ?_⟩
        have := hi
        rw [← List.take_append_drop j ls] at this
        refine (List.pairwise_append.mp this).2.2 x hx' z ?_
        rw [drop_at hc]
        exact List.mem_cons_self
      have el : ((found.map fun z => D.d z.py) : List D).length = found.length := List.length_map _
      refine ⟨_, rfl, _, put_same, .inl ?_⟩
      rw [el]
      show dSeq (dWhile _ _) _ _ [some (.own a), some (.own b), some (.d z.py), some (I (found.length : Nat))] (put st b (found.map fun z => .d z.py))
      refine ⟨fun m e st' => ∃ at_ : Nat, m = at_ ∧ at_ ≤ found.length ∧ e = [some (.own a), some (.own b), some (.d z.py), some (I at_)] ∧ st' = put st b (found.map fun z => .d z.py) ∧ ∀ y ∈ found.drop at_, ltD z.d y.d = true, ⟨_, found.length, rfl, Nat.le_refl _, rfl, rfl, by simp⟩, ?_⟩
      rintro at_ e st' ⟨_, rfl, hat, rfl, rfl, hdr⟩
      have fin : (∀ x ∈ found.take at_, x.lt z) → ∀ E : EndsD, E.nx = (fun e' st' => (j + 1 ≤ ls.length ∧ ∃ (found : List Rw) (t2 t3 : Option D), e' = [some (.own a), some (.own b), t2, t3] ∧ st' = put st b (found.map fun z => .d z.py) ∧ found.length = j + 1 ∧ (∀ t, t ∈ found ↔ t ∈ ls.take (j + 1)) ∧ found.Pairwise Rw.lt)) →
          (dDrop (dIns (dVar 1) (dVar 3) (dVar 2))) E [some (.own a), some (.own b), some (.d z.py), some (I at_)] (put st b (found.map fun z => .d z.py)) := by
        intro hx E hE
        refine ⟨_, rfl, by rw [put_same]; rfl, _, rfl, _, rfl, _, at_, rfl, put_same, by rw [el]; exact hat, by rw [el]; exact Nat.lt_of_le_of_lt (show found.length ≤ 100 by omega) (by decide), ?_⟩
        rw [hE, put_put]
        refine ⟨hlt, found.take at_ ++ z :: found.drop at_, _, _, rfl, by rw [List.map_append, List.map_cons, List.map_take, List.map_drop], ?_, fun t => ?_, ?_⟩
        · rw [List.length_append, List.length_cons, List.length_take, List.length_drop]
          omega
        · rw [List.take_add_one, hc, List.mem_append, List.mem_cons, List.mem_append]
          have m1 : t ∈ found ↔ t ∈ found.take at_ ∨ t ∈ found.drop at_ := by rw [← List.mem_append, List.take_append_drop]
          rw [← hmem, m1]
          simp only [Option.toList, List.mem_singleton]
          constructor
          · rintro (h | h | h)
            · exact .inl (.inl h)
            · exact .inr h
            · exact .inl (.inr h)
          · rintro ((h | h) | h)
            · exact .inl h
            · exact .inr (.inr h)
            · exact .inr (.inl h)
        · have both := hpw
          rw [← List.take_append_drop at_ found] at both
          obtain ⟨p1, p2, p3⟩ := List.pairwise_append.mp both
          refine List.pairwise_append.mpr ⟨p1, List.pairwise_cons.mpr ⟨fun y hy => Rw.of_lt (hdr y hy), p2⟩, fun x hx' y hy => ?_⟩
          rcases List.mem_cons.mp hy with rfl | hy
          · exact hx x hx'
          · exact p3 x hx' y hy
      refine ⟨_, rfl, trivial, ?_⟩
      show if decide ((0 : Int) < (at_ : Int)) = true then _ else _
      by_cases h0 : 0 < at_
      · rw [if_pos (decide_eq_true (by omega))]
        obtain ⟨w, hw⟩ : ∃ w, found[at_ - 1]? = some w := ⟨_, List.getElem?_eq_getElem (by omega)⟩
        have wm := List.mem_of_getElem? hw
        have okw := (fok w wm).1
        have at1 : atI (found.map fun z => D.d z.py) ((at_ : Int) - 1) = some (D.d w.py) := by
          have := atI_nat (xs := found.map fun z => D.d z.py) (j := at_ - 1) (v := D.d w.py) (by rw [List.getElem?_map, hw]; rfl)
          rwa [show (((at_ - 1 : Nat)) : Int) = (at_ : Int) - 1 by omega] at this
        refine ⟨_, rfl, _, atI_nat (j := 0) rfl, _, rfl, _, rfl, trivial, _, _, put_same, at1, _, atI_nat (j := 0) rfl, ?_⟩
        refine ⟨z.d, w.d, rfl, ⟨okz.bx, okz.by_⟩, ⟨okw.bx, okw.by_⟩, ?_⟩
        rw [ltL_eq okz.nz okw.nz]
        have tk : found.take at_ = found.take (at_ - 1) ++ [w] := by
          have : at_ = (at_ - 1) + 1 := by omega
          rw [this, List.take_add_one]
          have e2 : (at_ - 1 + 1) - 1 = at_ - 1 := by omega
          rw [hw]
          rfl
        show if ltD z.d w.d = true then _ else _
        by_cases c : ltD z.d w.d = true
        · rw [if_pos c]
          refine ⟨_, rfl, trivial, .inl ?_⟩
          refine ⟨at_ - 1, by omega, at_ - 1, rfl, by omega, ?_, rfl, fun y hy => ?_⟩
          · show [some (D.own a), some (D.own b), some (D.d z.py), some (I ((at_ : Int) - 1))] = _
            rw [show ((at_ : Int) - 1) = ((at_ - 1 : Nat) : Int) by omega]
          · rw [drop_at hw] at hy
            rcases List.mem_cons.mp hy with rfl | hy
            · exact c
            · exact hdr y (by rwa [show at_ - 1 + 1 = at_ by omega] at hy)
        · rw [if_neg c]
          refine fin (fun x hx => ?_) _ rfl
          have wz : w.lt z := Rw.of_idx (by simpa using c) (fok w wm).2
          rw [tk] at hx
          rcases List.mem_append.mp hx with h | h
          · have both := hpw
            rw [← List.take_append_drop at_ found, tk] at both
            have := (List.pairwise_append.mp (List.pairwise_append.mp both).1).2.2 x h w (by simp)
            exact Rw.lt_trans (fok x (List.mem_of_mem_take h)).1.nz okw.nz okz.nz this wz
          · rw [List.mem_singleton.mp h]
            exact wz
      · rw [if_neg (by simp; omega)]
        refine fin (fun x hx => ?_) _ rfl
        rw [show at_ = 0 by omega] at hx
        exact absurd hx List.not_mem_nil
end K04
namespace K04
open PySem PySem.Spec PyProof.Rows L2 DL LB
theorem row_ok {p : Pt} {ps : List Pt} (hp : p.Sm) (hps : ∀ q ∈ ps, q.Sm) (hne : ∀ q ∈ ps, q ≠ p) {i : Nat} (hi : i < ps.length) : RwOk (rowL p ps i) := by
  have mq := getD_mem (p := p) hi
  have sq := hps _ mq
  have b1 := (Sm_lo hp).ok
  have b2 := (Sm_lo sq).ok
  have s : ∀ {i j i' j' : Int}, B 230 i → B 230 j → B 230 i' → B 230 j' → B 5000 (i * j - i' * j') := fun a b c d => B_sub (a := 460) (b := 460) (B_mul a b (by decide)) (B_mul c d (by decide)) (by decide) (by decide)
  exact ⟨s b2.bx b1.bw b1.bx b2.bw, s b2.by_ b1.bw b1.by_ b2.bw, dir_nz hp.ok sq.ok (rel_own hp.hb hp.hd) (rel_own sq.hb sq.hd) (hne _ mq).symm⟩
theorem r_due : ∀ ds st Q, sp_due ds st Q → b_due { nx := fun _ s' => RQ Q (.d .none) s', rt := RQ Q } (startD N_due ds) st := by
  rintro ds st Q ⟨p, ps, rfl, hp, hps, hne, hl, k⟩
  walk_at "st"
  refine ⟨big_ok (by show 0 ≤ 3000; decide), .inr fun b hb => .inl ?_⟩
  show dSeq b_due_2 b_due_3 _ [some (.d (ownT p).py), some (.d (.tuple (ps.map Pt.py))), some (.own b), none, none, none] (put st b [])
  refine ⟨_, rfl, fun j e st' => j ≤ ps.length ∧ st' = put st b ((List.range j).map fun i => .d (rowL p ps i).py) ∧ ∃ t3 t4 t5 : Option D, e = [some (.d (ownT p).py), some (.d (.tuple (ps.map Pt.py))), some (.own b), t3, t4, t5], ⟨Nat.zero_le _, rfl, _, _, _, rfl⟩, ?_⟩
  rintro j e st' ⟨hj, rfl, t3, t4, t5, rfl⟩
  refine ⟨(fun a ds z => nomatch z), fun hd => ?_, fun d hd => ?_⟩
  · have hd : ((List.range (ps.map Pt.py).length).zipWith (fun (i : Nat) x => D.d (.tuple [.int i, x])) (ps.map Pt.py)).length ≤ j := hd
    rw [enum_len, List.length_map] at hd
    have ej : j = ps.length := by omega
    subst ej
    refine ⟨_, rfl, b, (List.range ps.length).map (rowL p ps), rfl, by rw [put_same, List.map_map]; rfl, ?_, ?_, ?_, fun out hm hpw hlen => ?_⟩
    · intro z hz
      obtain ⟨i, hi, rfl⟩ := List.mem_map.mp hz
      exact row_ok hp hps hne (List.mem_range.mp hi)
    · rw [List.length_map, List.length_range]
      omega
    · rw [List.pairwise_map]
      exact List.pairwise_lt_range
    · have T := rows_turn (p := p) (ps := ps) (rowL p ps) (fun _ => rfl) (fun i hi => ⟨1, 1, by decide, by decide, rfl, rfl⟩) hm hpw hlen
      have lo : out.length ≤ 24 := by
        rw [hlen, List.length_map, List.length_range]
        exact hl
      refine (show dLcV (fun _ st R => R ⟨(out.map Rw.py).map D.d, none⟩ st) 4 dYes (dBin rIxD (dVar 4) (dC (.int 1))) [some (.d (ownT p).py), some (.d (.tuple (ps.map Pt.py))), some (.own b), t3, t4, t5] _ _ from ?_)
      refine lcV_map out (fun z => .d z.py) (fun z => .int z.i) none (fun a ds z => nomatch z) (fun R hR => by rw [List.map_map]; exact hR) (Nat.lt_of_le_of_lt lo (by decide)) (fun z hz K hK => ⟨_, rfl, _, atI_nat (j := 1) rfl, hK⟩) ?_
      refine ⟨_, rfl, .inl ⟨st, sub_off hb, ?_⟩⟩
      have := k _ T
      unfold idxs at this
      rw [List.map_map] at this
      exact this
  · obtain ⟨x, hx, rfl⟩ := enum_get hd
    rw [List.getElem?_map] at hx
    cases hc : ps[j]? with
    | none =>
      rw [hc] at hx
      cases hx
    | some q =>
      rw [hc] at hx
      cases hx
      have hlt : j < ps.length := (List.getElem?_eq_some_iff.mp hc).1
      have sq := hps q (List.mem_of_getElem? hc)
      have b1 := (Sm_lo hp).ok
      have b2 := (Sm_lo sq).ok
      have eg : ps.getD j p = q := by rw [List.getD_eq_getElem?_getD, hc]; rfl
      simp only [↓DL.tup2]
      refine ⟨_, rfl, ?_⟩
      refine own_ sq.ok (.inl ?_)
      have cm : ∀ {i j : Int}, B 230 i → B 230 j → CMulW i j := fun h g => mulW' h g
      refine ⟨_, rfl, by rw [put_same]; rfl, ?_⟩
      walk_at "go"
      refine ⟨cm b2.bx b1.bw, cm b1.bx b2.bw, cm b2.by_ b1.bw, cm b1.by_ b2.bw, big_ok (by decide), big_ok (by decide), _, put_same, ?_, ?_⟩
      · rw [List.length_map, List.length_range]
        exact Nat.lt_of_le_of_lt (Nat.le_trans hj hl) (by decide)
      · rw [put_put]
        refine ⟨hlt, ?_, _, _, _, rfl⟩
        rw [List.range_succ, List.map_append]
        have : (rowL p ps j).py = .tuple [.tuple [.int ((ownT q).x * (ownT p).w - (ownT p).x * (ownT q).w), .int ((ownT q).y * (ownT p).w - (ownT p).y * (ownT q).w)], .int j] := by
          unfold rowL
          rw [eg]
          rfl
        rw [List.map_singleton, this]
end K04
namespace K04
open PySem PySem.Spec PyProof.Rows L2 DL LB
theorem put_ab {st : Sto} {a b : Addr} {p p' z : List D} (h : b ≠ a) : put (put (put st b p) a z) b p' = put (put st b p') a z := by
  rw [put_comm (a := a) (b := b) h.symm, put_put]
theorem cut_ab {st : Sto} {a b : Addr} {p z : List D} (h : b ≠ a) (hb : st b = none) : cut (put (put st b p) a z) b = put st a z := by
  funext c
  by_cases e : c = b
  · rw [e, cut_same, put_ne h, hb]
  · rw [cut_ne e]
    by_cases e2 : c = a
    · rw [e2, put_same, put_same]
    · rw [put_ne e2, put_ne e2, put_ne e]
theorem tr_sh (t : Tr) : SeqAt.shaped t.py = true := sh_tuple fun x hx => by
  simp only [List.mem_cons, List.not_mem_nil, or_false] at hx
  rcases hx with rfl | rfl | rfl <;> exact ⟨rfl, by simp [PyData.depth]⟩
theorem tr_eqv {t u : Tr} : PyData.eqv t.py u.py = decide (t = u) := by
  obtain ⟨x, y, w⟩ := t
  obtain ⟨x', y', w'⟩ := u
  rw [Bool.eq_iff_iff]
  simp [Tr.py, tri, PyData.eqv, PyData.eqvAll]
theorem own_told {n : Nat} {t : Tr} (h : t.Lo n) (hn : n ≤ 1600) : ownT (toldP t) = t := by
  have ok := told_ok (t := t) ⟨h.ok.hw, B_mono h.ok.bx hn, B_mono h.ok.by_ hn, B_mono h.ok.bw hn⟩
  have r1 := rel_own ok.hb ok.hd
  have r2 := rel_told h.ok.hw
  obtain ⟨e1, e2⟩ := rel_same r1 r2
  refine low3 (n := 3200) (ok_lo ok) (h.up (by omega)) ?_ ?_
  · rw [Int.mul_comm, e1, Int.mul_comm]
  · rw [Int.mul_comm, e2, Int.mul_comm]
theorem told_sm {t : Tr} (h : t.Lo 110) : (toldP t).Sm := by
  have hw := h.ok.hw
  have h1 := part_ok (t := t.x) hw
  have h2 := part_ok (t := t.y) hw
  exact ⟨h1.1, h2.1, h1.2, h2.2, B_div h.ok.bx, B_div h.ok.bw, B_div h.ok.by_, B_div h.ok.bw⟩
def StepD (v : PyData) : Prop := ∃ x y : Int, v = .tuple [.int x, .int y] ∧ B 11 x ∧ B 11 y
def oA : TSd := (dIfS (dTst (dBin rGtD (dFn0 sp_draw (dCons (dVar 0) (dCons (dC (.int 3)) dNil))) (dC (.int 0)))) (dSeq (dAsg (dFn0 sp_one_of (dCons (dVar 0) (dCons (dVar 5) dNil))) (hTup 2 (hCons (hName 7) (hCons (hName 8) hNil)))) (dSeq (dPar 9 10 (dCons (dBin rAddD (dC (.int 1)) (dFn0 sp_draw (dCons (dVar 0) (dCons (dC (.int 3)) dNil)))) (dCons (dBin rAddD (dC (.int 1)) (dFn0 sp_draw (dCons (dVar 0) (dCons (dC (.int 3)) dNil)))) dNil))) (dAsg (dFn0 sp_place (dCons (dBin rAddD (dBin rMulD (dBin rIxD (dVar 2) (dC (.int 0))) (dVar 10)) (dBin rMulD (dBin rMulD (dVar 9) (dVar 7)) (dBin rIxD (dVar 2) (dC (.int 2))))) (dCons (dBin rAddD (dBin rMulD (dBin rIxD (dVar 2) (dC (.int 1))) (dVar 10)) (dBin rMulD (dBin rMulD (dVar 9) (dVar 8)) (dBin rIxD (dVar 2) (dC (.int 2))))) (dCons (dBin rMulD (dBin rIxD (dVar 2) (dC (.int 2))) (dVar 10)) dNil)))) (hName 11)))) (dAsg (dFn0 sp_own (dCons (dFn0 sp_dot (dCons (dVar 0) (dCons (dVar 1) dNil))) dNil)) (hName 11)))
def oB : TSd := (dIfS (dTst (dBin rNeV (dVar 11) (dVar 2))) (dDrop (dApp (dVar 3) (dFn0 sp_told (dCons (dVar 11) dNil)))) dNext)
/-- the store: the spring's and the found ones -/
def OSt (st : Sto) (a b : Addr) (m : Nat) (h : Pt) (j : Nat) (st' : Sto) : Prop := ∃ (pts : List Pt) (zs : List D), st' = put (put st b (pts.map fun p => .d p.py)) a zs ∧ SprL zs m ∧ pts.length ≤ j ∧ (∀ q ∈ pts, q.Sm) ∧ ∀ q ∈ pts, q ≠ h
theorem r_oB {a b : Addr} {st : Sto} {fr0 e4 e5 t6 t7 t8 t9 t10 : Option D} {h : Pt} {far : Tr} {m j : Nat} {st' : Sto} {E : EndsD} (ba : b ≠ a) (hG : h.G) (hf : far.Lo 110) (hj : j ≤ 24) (hO : OSt st a b m h j st')
    (k : ∀ st2, OSt st a b m h (j + 1) st2 → E.nx [some (.own a), fr0, some (.d (ownT h).py), some (.own b), e4, e5, t6, t7, t8, t9, t10, some (.d far.py)] st2) :
    oB E [some (.own a), fr0, some (.d (ownT h).py), some (.own b), e4, e5, t6, t7, t8, t9, t10, some (.d far.py)] st' := by
  obtain ⟨pts, zs, rfl, hz, hl, h1, h2⟩ := hO
  refine ⟨_, rfl, _, rfl, tr_sh _, tr_sh _, ?_⟩
  rw [tr_eqv]
  show if (!decide (far = ownT h)) = true then _ else _
  by_cases c : far = ownT h
  · rw [decide_eq_true c, if_neg (by decide)]
    exact k _ ⟨pts, zs, rfl, hz, by omega, h1, h2⟩
  · rw [decide_eq_false c, if_pos (by decide)]
    have at_b : put (put st b (pts.map fun p => D.d p.py)) a zs b = some (pts.map fun p => D.d p.py) := by rw [put_ne ba, put_same]
    refine ⟨_, rfl, by rw [at_b]; rfl, _, rfl, ⟨hf.ok.hw, B_mono hf.ok.bx (by decide), B_mono hf.ok.by_ (by decide), B_mono hf.ok.bw (by decide)⟩, _, at_b, ?_, ?_⟩
    · rw [List.length_map]
      exact Nat.lt_of_le_of_lt (Nat.le_trans hl hj) (by decide)
    · rw [put_ab ba]
      refine k _ ⟨pts ++ [toldP far], zs, by rw [List.map_append]; rfl, hz, by rw [List.length_append]; simp; omega, fun q hq => ?_, fun q hq => ?_⟩
      · rcases List.mem_append.mp hq with z | z
        · exact h1 q z
        · rw [List.mem_singleton.mp z]
          exact told_sm hf
      · rcases List.mem_append.mp hq with z | z
        · exact h2 q z
        · rw [List.mem_singleton.mp z]
          intro e
          rw [← e, own_told hf (by decide)] at c
          exact c rfl
theorem OSt.spr {st : Sto} {a b : Addr} {m j : Nat} {h : Pt} {st' : Sto} (hO : OSt st a b m h j st') : ∃ zs, st' a = some zs ∧ SprL zs m ∧ ∀ m' zs', SprL zs' m' → OSt st a b m' h j (put st' a zs') := by
  obtain ⟨pts, zs, rfl, hz, hl, h1, h2⟩ := hO
  exact ⟨zs, put_same, hz, fun m' zs' hz' => ⟨pts, zs', by rw [put_put], hz', hl, h1, h2⟩⟩
theorem r_oA {a b : Addr} {st : Sto} {x y s u w : Int} {e4 t6 t7 t8 t9 t10 t11 : Option D} {xs : List PyData} {h : Pt} {m j : Nat} {st' : Sto} {E : EndsD} (F : FrOk x y s u w) (hG : h.G) (hm : m + 10 < 2 ^ 40) (hO : OSt st a b m h j st') (hx : ∀ v ∈ xs, StepD v) (h0 : 0 < xs.length) (h9 : xs.length < 1000)
    (k : ∀ st2 (far : Tr) (t6 t7 t8 t9 t10 : Option D), far.Lo 110 → OSt st a b (m + 4) h j st2 → E.nx [some (.own a), some (.d (frP x y s u w)), some (.d (ownT h).py), some (.own b), e4, some (.d (.list xs)), t6, t7, t8, t9, t10, some (.d far.py)] st2) :
    oA E [some (.own a), some (.d (frP x y s u w)), some (.d (ownT h).py), some (.own b), e4, some (.d (.list xs)), t6, t7, t8, t9, t10, t11] st' := by
  obtain ⟨zs, hst, hz, hO⟩ := hO.spr
  refine ⟨_, rfl, draw_ hst hz (by omega) (by decide) (by decide) fun i zs i0 i1 hz => ⟨trivial, ?_⟩⟩
  have hO1 := hO _ _ hz
  obtain ⟨zs, hst, hz, hO⟩ := hO1.spr
  show if decide ((0 : Int) < i) = true then _ else _
  by_cases hi : 0 < i
  · rw [if_pos (decide_eq_true hi)]
    refine ⟨_, rfl, _, rfl, one_lst hst hz (by omega) h0 h9 fun v zs hv hz => .inl ?_⟩
    obtain ⟨vx, vy, rfl, bx, by_⟩ := hx v hv
    have hO2 := hO _ _ hz
    obtain ⟨zs, hst, hz, hO⟩ := hO2.spr
    simp only [↓DL.tup2]
    refine ⟨_, rfl, draw_ hst hz (by omega) (by decide) (by decide) fun n1 zs n0 n9 hz => ?_⟩
    have hO3 := hO _ _ hz
    obtain ⟨zs, hst, hz, hO⟩ := hO3.spr
    refine ⟨_, rfl, draw_ hst hz (by omega) (by decide) (by decide) fun m1 zs m0 m9 hz => ?_⟩
    have hO4 := hO _ _ hz
    have lo := (G_lo hG)
    have wp : (ownT h).Ok 65 := (own_lo (n := 65) hG.hb hG.hd (B_mul hG.ba hG.bd (by decide)) (B_mul hG.bc hG.bb (by decide)) (B_mono (B_mul' hG.bb hG.bd) (by decide))).ok
    generalize ownT h = P at *
    walk_at "go"
    have bn : B 3 (1 + n1) := B_lt 8 (by omega) (by omega) (by decide)
    have bm : B 3 (1 + m1) := B_lt 8 (by omega) (by omega) (by decide)
    have bX : ∀ {i v : Int}, B 65 i → B 11 v → B 110 (i * (1 + m1) + (1 + n1) * v * P.w) := fun h g => B_add (a := 68) (b := 79) (B_mul h bm (by decide)) (B_mul (B_mul' bn g) wp.bw (by decide)) (by decide) (by decide)
    have bW : B 110 (P.w * (1 + m1)) := B_mono (B_mul' wp.bw bm) (by decide)
    have w0 : 0 < P.w * (1 + m1) := Int.mul_pos wp.hw (by omega)
    refine ⟨mulW' wp.bx bm, mulW' bn bx, mulW' (B_mul' bn bx) wp.bw, mulW' wp.by_ bm, mulW' bn by_, mulW' (B_mul' bn by_) wp.bw, mulW' wp.bw bm, by omega, B_mono (bX wp.bx bx) (by decide), B_mono (bX wp.by_ by_) (by decide), B_mono bW (by decide), .inl ?_⟩
    exact k _ _ _ _ _ _ _ (placeS_lo (by omega) (bX wp.bx bx) (bX wp.by_ by_) bW) hO4
  · rw [if_neg (by simpa using hi)]
    refine ⟨_, rfl, _, rfl, F, _, zs, hst, hz, by omega, ?_⟩
    rintro _ zs2 ⟨q, rfl, hq⟩ hz2
    refine own_ hq.sm.ok (.inl ?_)
    have hO5 := hO _ _ hz2
    exact k _ _ _ _ _ _ _ ((own_lo (n := 65) hq.hb hq.hd (B_mul hq.ba hq.bd (by decide)) (B_mul hq.bc hq.bb (by decide)) (B_mono (B_mul' hq.bb hq.bd) (by decide))).up (by decide)) hO5
end K04
namespace K04
open PySem PySem.Spec PyProof.Rows L2 DL LB
theorem r_others : ∀ ds st Q, sp_others ds st Q → b_others { nx := fun _ s' => Q (.d .none) s', rt := Q } (startD N_others ds) st := by
  rintro ds st Q ⟨a, x, y, s, u, w, h, rfl, F, hG, n, ys, hst, hy, hn, k⟩
  walk_at "st"
  refine ⟨big_ok (by show 0 ≤ 3000; decide), .inr fun b hb => ?_⟩
  have ba : b ≠ a := by
    intro e
    rw [e, hst] at hb
    cases hb
  walk_at "go"
  iterate 11 refine ⟨big_ok (by decide), ?_⟩
  generalize hS : ([PyData.tuple [PyData.int 1, PyData.int 0], PyData.tuple [PyData.int 0, PyData.int 1], PyData.tuple [PyData.int (-1), PyData.int 0], PyData.tuple [PyData.int 0, PyData.int (-1)], PyData.tuple [PyData.int 1, PyData.int 1], PyData.tuple [PyData.int (-2), PyData.int 1], PyData.tuple [PyData.int (-1), PyData.int (-3)], PyData.tuple [PyData.int 2, PyData.int (-1)], PyData.tuple [PyData.int 1000, PyData.int 1], PyData.tuple [PyData.int 1000, PyData.int (-1)]] : List PyData) = S
  have hSt : ∀ v ∈ S, StepD v := by
    subst hS
    intro v hv
    simp only [List.mem_cons, List.not_mem_nil, or_false] at hv
    rcases hv with rfl | rfl | rfl | rfl | rfl | rfl | rfl | rfl | rfl | rfl <;> exact ⟨_, _, rfl, by unfold B; decide, by unfold B; decide⟩
  have hSl : 0 < S.length ∧ S.length < 1000 := by
    subst hS
    exact ⟨by decide, by decide⟩
  refine ⟨rfl, ?_⟩
  show dSeq b_others_2 (dSeq b_others_3 b_others_4) _ [some (.own a), some (.d (frP x y s u w)), some (.d (ownT h).py), some (.own b), some (.d (.tuple S)), none, none, none, none, none, none, none] (put st b [])
  have O0 : ∀ m zs, SprL zs m → OSt st a b m h 0 (put (put st b []) a zs) := fun m zs hz => ⟨[], zs, rfl, hz, Nat.zero_le _, fun q hq => absurd hq List.not_mem_nil, fun q hq => absurd hq List.not_mem_nil⟩
  have hsame : put (put st b []) a ys = put st b [] := by
    funext c
    by_cases e : c = a
    · rw [e, put_same, put_ne ba.symm, hst]
    · rw [put_ne e]
  refine ⟨by decide, by decide, fun j acc st' => j ≤ 4 ∧ ∃ xs : List PyData, acc = xs.map D.d ∧ xs.length = j ∧ (∀ v ∈ xs, StepD v) ∧ OSt st a b (n + j) h 0 st', ⟨by decide, [], rfl, rfl, fun v hv => absurd hv List.not_mem_nil, by have := O0 n ys hy; rwa [hsame] at this⟩, ?_⟩
  rintro j acc st' ⟨hj, xs, rfl, hxl, hxs, hO⟩
  refine ⟨(fun a ds z => nomatch z), fun hd => ?_, fun d hd => ?_⟩
  · have hd : ((List.range (Int.toNat 4)).map fun (i : Nat) => D.d (.int (0 + i))).length ≤ j := hd
    rw [List.length_map, List.length_range] at hd
    have hd : 4 ≤ j := hd
    refine ⟨xs, pures_map _, .inl ?_⟩
    show dSeq b_others_3 b_others_4 _ [some (.own a), some (.d (frP x y s u w)), some (.d (ownT h).py), some (.own b), some (.d (.tuple S)), some (.d (.list xs)), none, none, none, none, none, none] st'
    have loop : ∀ (c : Int) (m : Nat) st', 0 ≤ c → c ≤ 24 → m ≤ n + 20 → OSt st a b m h 0 st' → (∃ W : Nat → Ed → Sto → Prop, W 0 [some (.own a), some (.d (frP x y s u w)), some (.d (ownT h).py), some (.own b), some (.d (.tuple S)), some (.d (.list xs)), none, none, none, none, none, none] st' ∧
        ∀ i e st'', W i e st'' → (∀ (a' : Addr) (ds : List D), (none : Option (Addr × List D)) = some (a', ds) → st'' a' = some ds) ∧ (((List.range c.toNat).map fun (i : Nat) => D.d (.int (0 + i))).length ≤ i → b_others_4 { nx := fun _ s' => Q (.d .none) s', rt := Q } e st'') ∧
          ∀ d, ((List.range c.toNat).map fun (i : Nat) => D.d (.int (0 + i)))[i]? = some d → hName 6 d e st'' fun e2 st2 => (dSeq oA oB) { nx := W (i + 1), rt := Q, ct := W (i + 1), bk := b_others_4 { nx := fun _ s' => Q (.d .none) s', rt := Q } } e2 st2) := by
      intro c m st' c0 c1 hm hO
      refine ⟨fun i e st' => i ≤ c.toNat ∧ OSt st a b (m + 4 * i) h i st' ∧ ∃ t6 t7 t8 t9 t10 t11 : Option D, e = [some (.own a), some (.d (frP x y s u w)), some (.d (ownT h).py), some (.own b), some (.d (.tuple S)), some (.d (.list xs)), t6, t7, t8, t9, t10, t11], ⟨Nat.zero_le _, hO, _, _, _, _, _, _, rfl⟩, ?_⟩
      rintro i e st'' ⟨hi, hO, t6, t7, t8, t9, t10, t11, rfl⟩
      refine ⟨(fun a ds z => nomatch z), fun hd => ?_, fun d hd => ?_⟩
      · obtain ⟨pts, zs, rfl, hz, hl, h1, h2⟩ := hO
        refine ⟨_, rfl, .inr ⟨b, pts.map Pt.py, rfl, by rw [put_ne ba, put_same, List.map_map]; rfl, ?_⟩⟩
        rw [cut_ab ba hb]
        exact spS_done k ⟨pts, rfl, by omega, h1, h2⟩ hz (by omega)
      · obtain ⟨rfl, hlt⟩ := range_at hd
        refine r_oA F hG (by omega) hO hxs (by omega) (by omega) fun st2 far t6 t7 t8 t9 t10 hf hO2 => ?_
        refine r_oB ba hG hf (by omega) hO2 fun st3 hO3 => ?_
        exact ⟨by omega, by rwa [show m + 4 * (i + 1) = m + 4 * i + 4 by omega], _, _, _, _, _, _, rfl⟩
    obtain ⟨zs, hst1, hz, hO'⟩ := hO.spr
    refine ⟨_, rfl, draw_ hst1 hz (by omega) (by decide) (by decide) fun r zs r0 r1 hz => ?_⟩
    have hO2 := hO' _ _ hz
    show if decide (r = 0) = true then _ else _
    by_cases hr : r = 0
    · rw [if_pos (decide_eq_true hr)]
      refine ⟨by decide, by decide, ?_⟩
      exact loop 24 _ _ (by decide) (by decide) (by omega) hO2
    · rw [if_neg (by simpa using hr)]
      obtain ⟨zs, hst1, hz, hO'⟩ := hO2.spr
      refine ⟨_, rfl, draw_ hst1 hz (by omega) (by decide) (by decide) fun r zs r0 r1 hz => ?_⟩
      have hO3 := hO' _ _ hz
      refine ⟨by omega, by omega, ?_⟩
      exact loop r _ _ r0 (by omega) (by omega) hO3
  · obtain ⟨rfl, hlt⟩ := range_at hd
    have hlt : j < 4 := hlt
    obtain ⟨zs, hst1, hz, hO'⟩ := hO.spr
    refine ⟨_, rfl, _, rfl, one_tup hst1 hz (by omega) hSl.1 hSl.2 fun v zs hv hz => ⟨?_, by omega, xs ++ [v], by rw [List.map_append]; rfl, by rw [List.length_append, hxl]; rfl, fun q hq => ?_, ?_⟩⟩
    · rw [List.length_map]
      exact Nat.lt_of_le_of_lt (show xs.length ≤ 4 by omega) (by decide)
    · rcases List.mem_append.mp hq with z | z
      · exact hxs q z
      · rw [List.mem_singleton.mp z]
        exact hSt v hv
    · exact hO' _ _ hz
end K04
namespace K04
open PySem PySem.Spec PyProof.Rows L2 DL LB
theorem turn_one {p : Pt} {ps : List Pt} {o o' : List Nat} (h : Turn p ps o) (g : Turn p ps o') : o = o' :=
  ord_one (R := fun i j => (rowL p ps i).lt (rowL p ps j)) (fun _ _ x y => Rw.lt_asymm x y) o o' h.2.1 g.2.1 (fun t => (h.1 t).trans (g.1 t).symm)
theorem idxs_sh {p : Pt} {ps : List Pt} {o : List Nat} (h : Turn p ps o) (hl : ps.length ≤ 24) : Sh 40000 1 (idxs o) := Sh.tup (k := 1601) (d := 0) (fun x hx => by
  obtain ⟨i, hi, rfl⟩ := List.mem_map.mp hx
  have := (h.1 i).mp hi
  exact Sh.int (B_of 24 (by omega) (by decide))) (by
    rw [List.length_map, h.2.2]
    omega)
theorem r_right : ∀ ds st Q, sp_right ds st Q → b_right { nx := fun _ s' => Q (.d .none) s', rt := Q } (startD N_right ds) st := by
  intro ds st Q h
  unfold sp_right at h
  split at h
  · rename_i a
    obtain ⟨xs, hst, hy, hQ⟩ := h
    walk_at "st"
    refine ⟨_, rfl, 0, xs, hst, hy, by decide, ?_⟩
    rintro _ y1 ⟨x, y, s', u, w, rfl, F⟩ hy1
    refine .inl ⟨_, rfl, _, rfl, F, _, y1, put_same, hy1, by decide, ?_⟩
    rintro _ y2 ⟨q, rfl, hG⟩ hy2
    rw [put_put]
    refine .inl ⟨_, rfl, own_ hG.sm.ok (.inl ?_)⟩
    refine ⟨_, rfl, _, rfl, _, rfl, a, x, y, s', u, w, q, rfl, F, hG, _, y2, put_same, hy2, by decide, ?_⟩
    rintro _ y3 ⟨ps, rfl, hl, hps, hne⟩ hy3
    rw [put_put]
    refine ⟨_, rfl, .inl ?_⟩
    show dSeq b_right_5 _ _ [some (.own a), some (.d (frP x y s' u w)), some (.d q.py), some (.d (ownT q).py), some (.d (.tuple (ps.map Pt.py))), none, none, none, none] (put st a y3)
    refine ⟨_, rfl, .inl ?_⟩
    rw [← List.map_reverse]
    have hps' : ∀ z ∈ ps.reverse, z.Sm := fun z hz => hps z (List.mem_reverse.mp hz)
    have hne' : ∀ z ∈ ps.reverse, z ≠ q := fun z hz => hne z (List.mem_reverse.mp hz)
    have hl' : ps.reverse.length ≤ 24 := by rw [List.length_reverse]; exact hl
    refine ⟨_, rfl, _, rfl, q, ps, rfl, hG.sm, hps, hne, hl, fun o1 T1 => ?_⟩
    refine ⟨_, rfl, _, rfl, q, ps.reverse, rfl, hG.sm, hps', hne', hl', fun o2 T2 => ?_⟩
    show dSeq b_right_7 b_right_8 _ [some (.own a), some (.d (frP x y s' u w)), some (.d q.py), some (.d (ownT q).py), some (.d (.tuple (ps.map Pt.py))), some (.d (.tuple (ps.reverse.map Pt.py))), some (.d (idxs o1)), some (.d (idxs o2)), none] (put st a y3)
    refine ⟨_, rfl, _, rfl, q, ps, rfl, hG.sm, hps, hne, hl, fun p1 U1 => ?_⟩
    refine ⟨_, rfl, _, rfl, q, ps.reverse, rfl, hG.sm, hps', hne', hl', fun p2 U2 => ?_⟩
    refine ⟨_, rfl, _, rfl, q, ps, rfl, hG.sm, hps, hne, hl, fun p3 U3 => ?_⟩
    have e1 := turn_one U1 T1
    have e2 := turn_one U2 T2
    have e3 := turn_one U3 T1
    subst e1
    subst e2
    subst e3
    have sl : Sh 200000 2 (.list [idxs p3, idxs p2, idxs p3]) := Sh.lst (k := 40000) (d := 1) (fun x hx => by
      simp only [List.mem_cons, List.not_mem_nil, or_false] at hx
      rcases hx with rfl | rfl | rfl
      · exact idxs_sh T1 hl
      · exact idxs_sh T2 hl'
      · exact idxs_sh T1 hl) (by show 3 * (40000 + 2) + 3 ≤ 200000; decide)
    obtain ⟨m1, m2, m3, m4⟩ := sl.ok (by decide) (by decide)
    refine ⟨big_ok (by show 3 ≤ 3000; decide), .inl ?_⟩
    refine ⟨_, rfl, m1, m2, m3, m4, _, rfl, _, rfl, _, rfl, big_ok (by show 3 ≤ 3000; decide), m1, m2, m3, m4, .inl ?_⟩
    have := hQ (put st a y3)
    show Q (.d (.bool (decide ((PyData.list [idxs p3, idxs p2, idxs p3]).shown = (PyData.list [idxs p3, idxs p2, idxs p3]).shown)))) (put st a y3)
    rw [decide_eq_true rfl]
    exact this
  · exact h.elim
theorem r_law : ∀ ds st Q, sp_law ds st Q → b_law { nx := fun _ s' => Q (.d .none) s', rt := Q } (startD N_law ds) st := by
  intro ds st Q h
  unfold sp_law at h
  split at h
  · rename_i ns
    obtain ⟨hl, hQ⟩ := h
    walk_at "st"
    refine ⟨_, rfl, _, rfl, trivial, trivial, ?_⟩
    have nb : ∀ L : Int, 0 ≤ L → 0 ≤ (if (if (4 : Int) < L then (4 : Int) else L) > 2 then (if (4 : Int) < L then (4 : Int) else L) else 2) ∧ (if (if (4 : Int) < L then (4 : Int) else L) > 2 then (if (4 : Int) < L then (4 : Int) else L) else 2) ≤ 4 := by
      intro L h0
      split
      · split <;> omega
      · omega
    obtain ⟨n0, n1⟩ := nb ((ns.map fun n => D.d (.int n)).length : Int) (by omega)
    refine ⟨Int.le_trans (by decide) n0, Int.lt_of_le_of_lt n1 (by decide), fun j acc st' => j ≤ 4 ∧ acc = List.replicate j (Bo true), ⟨by omega, rfl⟩, ?_⟩
    rintro j acc st' ⟨hj, rfl⟩
    refine ⟨(fun a ds z => nomatch z), fun hd => ?_, fun d hd => ?_⟩
    · refine ⟨List.replicate j (.bool true), ?_, List.replicate j true, ?_, .inl ?_⟩
      · rw [show List.replicate j (Bo true) = (List.replicate j (PyData.bool true)).map D.d by rw [List.map_replicate]]
        exact pures_map _
      · show some ((List.replicate j (PyData.bool true)).map D.d) = _
        rw [List.map_replicate, List.map_replicate]
      · have e : (List.replicate j true).all _root_.id = true := by
          rw [List.all_replicate]
          split <;> rfl
        rw [e]
        exact hQ _
    · obtain ⟨rfl, hlt⟩ := range_at hd
      have hj4 : j < 4 := by omega
      refine ⟨_, rfl, _, rfl, ⟨hl, by omega, by omega, fun p xs hp hs => ?_⟩⟩
      refine ⟨xs, put_same, hs, fun st'' => ⟨?_, by omega, ?_⟩⟩
      · rw [List.length_replicate]
        exact Nat.lt_trans hj4 (by decide)
      · rw [List.replicate_succ']
  · exact h.elim
end K04
namespace K04
open PySem PySem.Spec PyProof.Rows L2 DL LB
section
variable {P : Program} {w : World} {K : PySem.W.Frag} {mg : Str → Option Value} {base : Heap}
theorem t_is_whole {k : Nat} (hk : 0 ≤ k) (T : Tx K mg)  (f : Addr) (cd : Value) (A : Around) (outer : List Env) (s : Shared) (H : Hp) (E : XK) (hG : A.guards = some []) (hr : Room k (A.deeper (envOfC "is_whole" (defScope s_is_whole) s.heap.objs.size f cd))) :
    PDSs (cxD P w K mg base N_is_whole "is_whole" (defScope s_is_whole) f cd A outer s H E) (defBody s_is_whole) b_is_whole :=
  (pss_done (psd_ret (pd_and (pd_is rfl T.n_isinstance rfl T.n_int bt_int (pd 0) bt_isinstance) (pd_one (pd_not (pd_is rfl T.n_isinstance rfl T.n_bool bt_bool (pd 0) bt_isinstance))))))
theorem t_is_row {k : Nat} (hk : 0 ≤ k) (T : Tx K mg)  (f : Addr) (cd : Value) (A : Around) (outer : List Env) (s : Shared) (H : Hp) (E : XK) (hG : A.guards = some []) (hr : Room k (A.deeper (envOfC "is_row" (defScope s_is_row) s.heap.objs.size f cd))) :
    PDSs (cxD P w K mg base N_is_row "is_row" (defScope s_is_row) f cd A outer s H E) (defBody s_is_row) b_is_row :=
  (pss_done (psd_ret (pd_and (pd_is rfl T.n_isinstance rfl T.n_tuple bt_tuple (pd 0) bt_isinstance) (pd_one (pd_chain o_le o_le (pd 1) (pd_callB c_len rfl T.n_len bt_len (pda_cons (pd 0) pda_nil)) (pd 2))))))
theorem t_is_fraction {k : Nat} (hk : 1 ≤ k) (T : Tx K mg) (c_is_row : Can P w K mg base 1 "is_row" s_is_row ["value", "low", "high"] sp_is_row) (c_is_whole : Can P w K mg base 1 "is_whole" s_is_whole ["value"] sp_is_whole) (f : Addr) (cd : Value) (A : Around) (outer : List Env) (s : Shared) (H : Hp) (E : XK) (hG : A.guards = some []) (hr : Room k (A.deeper (envOfC "is_fraction" (defScope s_is_fraction) s.heap.objs.size f cd))) :
    PDSs (cxD P w K mg base N_is_fraction "is_fraction" (defScope s_is_fraction) f cd A outer s H E) (defBody s_is_fraction) b_is_fraction :=
  (pss_dcons (psd_if (pdt_w (pdw_or (pdt_not (pdt_val (pd_call c_is_row hG (hr.mono (by omega)) rfl (pda_cons (pd 0) (pda_cons pd_int (pda_cons pd_int pda_nil)))))) (pdw_or (pdt_not (pdt_val (pd_call c_is_whole hG (hr.mono (by omega)) rfl (pda_cons (pd_ix (pd 0) pd_int (fun _ _ => rfl)) pda_nil)))) (pdw_or1 (pdt_not (pdt_val (pd_call c_is_whole hG (hr.mono (by omega)) rfl (pda_cons (pd_ix (pd 0) pd_int (fun _ _ => rfl)) pda_nil)))))))) (pss_done (psd_ret pd_bl)) pss_dnil) (pss_done (psd_ret (pd_and (pd_cmp o_gt (pd_ix (pd 0) pd_int (fun _ _ => rfl)) pd_int (nomark _)) (pd_one (pd_cmp (o_eq hr.units) (pd_callM c_gcd rfl T.m_gcd (pda_cons (pd_ix (pd 0) pd_int (fun _ _ => rfl)) (pda_cons (pd_ix (pd 0) pd_int (fun _ _ => rfl)) pda_nil))) pd_int (nomark _)))))))
theorem t_is_place {k : Nat} (hk : 2 ≤ k) (T : Tx K mg) (c_is_row : Can P w K mg base 1 "is_row" s_is_row ["value", "low", "high"] sp_is_row) (c_is_fraction : Can P w K mg base 2 "is_fraction" s_is_fraction ["value"] sp_is_fraction) (f : Addr) (cd : Value) (A : Around) (outer : List Env) (s : Shared) (H : Hp) (E : XK) (hG : A.guards = some []) (hr : Room k (A.deeper (envOfC "is_place" (defScope s_is_place) s.heap.objs.size f cd))) :
    PDSs (cxD P w K mg base N_is_place "is_place" (defScope s_is_place) f cd A outer s H E) (defBody s_is_place) b_is_place :=
  (pss_done (psd_ret (pd_and (pd_call c_is_row hG (hr.mono (by omega)) rfl (pda_cons (pd 0) (pda_cons pd_int (pda_cons pd_int pda_nil)))) (pd_and (pd_call c_is_fraction hG (hr.mono (by omega)) rfl (pda_cons (pd_ix (pd 0) pd_int (fun _ _ => rfl)) pda_nil)) (pd_one (pd_call c_is_fraction hG (hr.mono (by omega)) rfl (pda_cons (pd_ix (pd 0) pd_int (fun _ _ => rfl)) pda_nil)))))))
theorem t_check_point {k : Nat} (hk : 3 ≤ k) (T : Tx K mg) (c_is_place : Can P w K mg base 3 "is_place" s_is_place ["value"] sp_is_place) (f : Addr) (cd : Value) (A : Around) (outer : List Env) (s : Shared) (H : Hp) (E : XK) (hG : A.guards = some []) (hr : Room k (A.deeper (envOfC "check_point" (defScope s_check_point) s.heap.objs.size f cd))) :
    PDSs (cxD P w K mg base N_check_point "check_point" (defScope s_check_point) f cd A outer s H E) (defBody s_check_point) b_check_point :=
  (pss_done (psd_if (pdt_not (pdt_val (pd_call c_is_place hG (hr.mono (by omega)) rfl (pda_cons (pd 0) pda_nil)))) (pss_done psd_never) pss_dnil))
theorem t_check_points {k : Nat} (hk : 3 ≤ k) (T : Tx K mg) (c_is_row : Can P w K mg base 1 "is_row" s_is_row ["value", "low", "high"] sp_is_row) (c_is_place : Can P w K mg base 3 "is_place" s_is_place ["value"] sp_is_place) (f : Addr) (cd : Value) (A : Around) (outer : List Env) (s : Shared) (H : Hp) (E : XK) (hG : A.guards = some []) (hr : Room k (A.deeper (envOfC "check_points" (defScope s_check_points) s.heap.objs.size f cd))) :
    PDSs (cxD P w K mg base N_check_points "check_points" (defScope s_check_points) f cd A outer s H E) (defBody s_check_points) b_check_points :=
  (pss_dcons (psd_if (pdt_not (pdt_val (pd_call c_is_row hG (hr.mono (by omega)) rfl (pda_cons (pd 0) (pda_cons pd_int (pda_cons (pd_gint rfl T.g_MOST_IN_ROW) pda_nil)))))) (pss_done psd_never) pss_dnil) (pss_done (psd_for PassesOwn.never rfl (pdi_enum rfl T.n_enumerate (pda_cons (pd 0) pda_nil)) (pdg_tup (n := 2) rfl (pdgs_cons (pdg_name (i := 1) sc_check_points.nd rfl (by first | exact .inl rfl | exact .inr rfl)) (pdgs_cons (pdg_name (i := 2) sc_check_points.nd rfl (by first | exact .inl rfl | exact .inr rfl)) pdgs_nil))) (pss_done (psd_if (pdt_not (pdt_val (pd_call c_is_place hG (hr.mono (by omega)) rfl (pda_cons (pd 2) pda_nil)))) (pss_done psd_never) pss_dnil)))))
theorem t_merged {k : Nat} (hk : 2 ≤ k) (T : Tx K mg)  {F : Addr} {fdF : FuncData} {sp_F : SpD} {psF : List Str} {kF : Nat} (hkk : kF ≤ k) (FF : FnD P w K mg base kF F fdF psF sp_F) (hkF : PySem.W.keepIn K (.ref F) = true) (hbF : Binds K fdF psF []) (f : Addr) (cd : Value) (A : Around) (outer : List Env) (s : Shared) (H : Hp) (E : XK) (hG : A.guards = some []) (hr : Room k (A.deeper (envOfC "merged" (defScope s_merged) s.heap.objs.size f cd))) :
    PDSs (cxD P w K mg base N_merged "merged" (defScope s_merged) f cd A outer s H E) (defBody s_merged) (b_merged F sp_F) :=
  (pss_dcons (psd_set (i := 3) sc_merged.nd rfl (by first | exact .inl rfl | exact .inr rfl) (pd_lst pda_nil)) (pss_dcons (psd_two (i := 4) (j := 5) sc_merged.nd rfl rfl (by first | exact .inl rfl | exact .inr rfl) (by first | exact .inl rfl | exact .inr rfl) pd_int) (pss_dcons (psd_while PassesOwn.never (pdt_w (pdw_and (pdt_cmp o_lt (pd 4) (pd_callB c_len rfl T.n_len bt_len (pda_cons (pd 0) pda_nil)) (nomark _)) (pdw_and1 (pdt_cmp o_lt (pd 5) (pd_callB c_len rfl T.n_len bt_len (pda_cons (pd 1) pda_nil)) (nomark _))))) (pss_done (psd_if (pdt_val (pd_fnL FF hG (hr.mono (by omega)) (i := 2) rfl (by first | exact Or.inl rfl | exact Or.inr (Or.inl rfl) | exact Or.inr (Or.inr rfl)) hkF hbF (pda_cons (pd_ix (pd 1) (pd 5) (fun _ _ => rfl)) (pda_cons (pd_ix (pd 0) (pd 4) (fun _ _ => rfl)) pda_nil)))) (pss_dcons (psd_expr (pd_append (pd 3) (pd_ix (pd 1) (pd 5) (fun _ _ => rfl)))) (pss_done (psd_aug (i := 5) sc_merged.nd rfl (by first | exact .inl rfl | exact .inr rfl) pd_int))) (pss_dcons (psd_expr (pd_append (pd 3) (pd_ix (pd 0) (pd 4) (fun _ _ => rfl)))) (pss_done (psd_aug (i := 4) sc_merged.nd rfl (by first | exact .inl rfl | exact .inr rfl) pd_int)))))) (pss_done (psd_ret (pd_bin o_add (pd_bin o_add (pd 3) (pd_sl (pd 0) (pdo_some (pd 4)) pdo_none)) (pd_sl (pd 1) (pdo_some (pd 5)) pdo_none)))))))
theorem t_sorted_by {k : Nat} {F : Addr} (hk : 3 ≤ k) (T : Tx K mg) (c_merged : Can P w K mg base 3 "merged" s_merged ["left", "right", "is_below"] (sp_merged F)) {sp_self : SpD} (c_self : Can P w K mg base k "sorted_by" s_sorted_by ["rows", "is_below"] sp_self) (f : Addr) (cd : Value) (A : Around) (outer : List Env) (s : Shared) (H : Hp) (E : XK) (hG : A.guards = some []) (hr : Room k (A.deeper (envOfC "sorted_by" (defScope s_sorted_by) s.heap.objs.size f cd))) :
    PDSs (cxD P w K mg base N_sorted_by "sorted_by" (defScope s_sorted_by) f cd A outer s H E) (defBody s_sorted_by) (b_sorted_by sp_self F) :=
  (pss_dcons (psd_if (pdt_cmp o_lt (pd_callB c_len rfl T.n_len bt_len (pda_cons (pd 0) pda_nil)) pd_int (nomark _)) (pss_done (psd_ret (pd_callTy c_listV rfl T.n_list bt_list (pda_cons (pd 0) pda_nil)))) pss_dnil) (pss_dcons (psd_set (i := 2) sc_sorted_by.nd rfl (by first | exact .inl rfl | exact .inr rfl) (pd_bin o_div (pd_callB c_len rfl T.n_len bt_len (pda_cons (pd 0) pda_nil)) pd_int)) (pss_done (psd_ret (pd_call c_merged hG (hr.mono (by omega)) rfl (pda_cons (pd_call c_self hG (hr.mono (by omega)) rfl (pda_cons (pd_sl (pd 0) pdo_none (pdo_some (pd 2))) (pda_cons (pd 1) pda_nil))) (pda_cons (pd_call c_self hG (hr.mono (by omega)) rfl (pda_cons (pd_sl (pd 0) (pdo_some (pd 2)) pdo_none) (pda_cons (pd 1) pda_nil))) (pda_cons (pd 1) pda_nil))))))))
theorem t_scaled {k : Nat} (hk : 0 ≤ k) (T : Tx K mg)  (f : Addr) (cd : Value) (A : Around) (outer : List Env) (s : Shared) (H : Hp) (E : XK) (hG : A.guards = some []) (hr : Room k (A.deeper (envOfC "scaled" (defScope s_scaled) s.heap.objs.size f cd))) :
    PDSs (cxD P w K mg base N_scaled "scaled" (defScope s_scaled) f cd A outer s H E) (defBody s_scaled) b_scaled :=
  (pss_dcons (psd_asg (pd 0) (pdg_tup (n := 2) rfl (pdgs_cons (pdg_tup (n := 2) rfl (pdgs_cons (pdg_name (i := 1) sc_scaled.nd rfl (by first | exact .inl rfl | exact .inr rfl)) (pdgs_cons (pdg_name (i := 2) sc_scaled.nd rfl (by first | exact .inl rfl | exact .inr rfl)) pdgs_nil))) (pdgs_cons (pdg_tup (n := 2) rfl (pdgs_cons (pdg_name (i := 3) sc_scaled.nd rfl (by first | exact .inl rfl | exact .inr rfl)) (pdgs_cons (pdg_name (i := 4) sc_scaled.nd rfl (by first | exact .inl rfl | exact .inr rfl)) pdgs_nil))) pdgs_nil)))) (pss_dcons (psd_set (i := 5) sc_scaled.nd rfl (by first | exact .inl rfl | exact .inr rfl) (pd_callM c_lcm rfl T.m_lcm (pda_cons (pd 2) (pda_cons (pd 4) pda_nil)))) (pss_done (psd_ret (pd_tup (pda_cons (pd_bin o_mul (pd 1) (pd_bin o_div (pd 5) (pd 2))) (pda_cons (pd_bin o_mul (pd 3) (pd_bin o_div (pd 5) (pd 4))) (pda_cons (pd 5) pda_nil))))))))
theorem t_heading {k : Nat} (hk : 0 ≤ k) (T : Tx K mg)  (f : Addr) (cd : Value) (A : Around) (outer : List Env) (s : Shared) (H : Hp) (E : XK) (hG : A.guards = some []) (hr : Room k (A.deeper (envOfC "heading" (defScope s_heading) s.heap.objs.size f cd))) :
    PDSs (cxD P w K mg base N_heading "heading" (defScope s_heading) f cd A outer s H E) (defBody s_heading) b_heading :=
  (pss_done (psd_ret (pd_tup (pda_cons (pd_bin o_sub (pd_bin o_mul (pd_ix (pd 1) pd_int (fun _ _ => rfl)) (pd_ix (pd 0) pd_int (fun _ _ => rfl))) (pd_bin o_mul (pd_ix (pd 0) pd_int (fun _ _ => rfl)) (pd_ix (pd 1) pd_int (fun _ _ => rfl)))) (pda_cons (pd_bin o_sub (pd_bin o_mul (pd_ix (pd 1) pd_int (fun _ _ => rfl)) (pd_ix (pd 0) pd_int (fun _ _ => rfl))) (pd_bin o_mul (pd_ix (pd 0) pd_int (fun _ _ => rfl)) (pd_ix (pd 1) pd_int (fun _ _ => rfl)))) pda_nil)))))
theorem t_is_lower_half {k : Nat} (hk : 0 ≤ k) (T : Tx K mg)  (f : Addr) (cd : Value) (A : Around) (outer : List Env) (s : Shared) (H : Hp) (E : XK) (hG : A.guards = some []) (hr : Room k (A.deeper (envOfC "is_lower_half" (defScope s_is_lower_half) s.heap.objs.size f cd))) :
    PDSs (cxD P w K mg base N_is_lower_half "is_lower_half" (defScope s_is_lower_half) f cd A outer s H E) (defBody s_is_lower_half) b_is_lower_half :=
  (pss_done (psd_ret (pd_or (pd_cmp o_lt (pd_ix (pd 0) pd_int (fun _ _ => rfl)) pd_int (nomark _)) (pd_one (pd_and (pd_cmp (o_eq hr.units) (pd_ix (pd 0) pd_int (fun _ _ => rfl)) pd_int (nomark _)) (pd_one (pd_cmp o_lt (pd_ix (pd 0) pd_int (fun _ _ => rfl)) pd_int (nomark _))))))))
theorem t_is_turned_less {k : Nat} (hk : 1 ≤ k) (T : Tx K mg) (c_is_lower_half : Can P w K mg base 1 "is_lower_half" s_is_lower_half ["direction"] sp_is_lower_half) (f : Addr) (cd : Value) (A : Around) (outer : List Env) (s : Shared) (H : Hp) (E : XK) (hG : A.guards = some []) (hr : Room k (A.deeper (envOfC "is_turned_less" (defScope s_is_turned_less) s.heap.objs.size f cd))) :
    PDSs (cxD P w K mg base N_is_turned_less "is_turned_less" (defScope s_is_turned_less) f cd A outer s H E) (defBody s_is_turned_less) b_is_turned_less :=
  (pss_dcons (psd_asg (pd_tup (pda_cons (pd_ix (pd 0) pd_int (fun _ _ => rfl)) (pda_cons (pd_ix (pd 1) pd_int (fun _ _ => rfl)) pda_nil))) (pdg_tup (n := 2) rfl (pdgs_cons (pdg_tup (n := 2) rfl (pdgs_cons (pdg_name (i := 2) sc_is_turned_less.nd rfl (by first | exact .inl rfl | exact .inr rfl)) (pdgs_cons (pdg_name (i := 3) sc_is_turned_less.nd rfl (by first | exact .inl rfl | exact .inr rfl)) pdgs_nil))) (pdgs_cons (pdg_tup (n := 2) rfl (pdgs_cons (pdg_name (i := 4) sc_is_turned_less.nd rfl (by first | exact .inl rfl | exact .inr rfl)) (pdgs_cons (pdg_name (i := 5) sc_is_turned_less.nd rfl (by first | exact .inl rfl | exact .inr rfl)) pdgs_nil))) pdgs_nil)))) (pss_dcons (psd_par (i := 6) (j := 7) rfl sc_is_turned_less.nd rfl rfl (by decide) rfl rfl (pda_cons (pd_call c_is_lower_half hG (hr.mono (by omega)) rfl (pda_cons (pd_ix (pd 0) pd_int (fun _ _ => rfl)) pda_nil)) (pda_cons (pd_call c_is_lower_half hG (hr.mono (by omega)) rfl (pda_cons (pd_ix (pd 1) pd_int (fun _ _ => rfl)) pda_nil)) pda_nil)) (by rfl)) (pss_dcons (psd_if (pdt_cmp (o_ne hr.units) (pd 6) (pd 7) (nomark _)) (pss_done (psd_ret (pd 7))) pss_dnil) (pss_done (psd_ret (pd_cmp o_gt (pd_bin o_sub (pd_bin o_mul (pd 2) (pd 5)) (pd_bin o_mul (pd 3) (pd 4))) pd_int (nomark _)))))))
theorem t_in_turn {k : Nat} {F_is_turned_less : Addr} (hk : 9 ≤ k) (T : Tx K mg) (c_check_point : Can P w K mg base 4 "check_point" s_check_point ["value"] sp_check_point) (c_check_points : Can P w K mg base 4 "check_points" s_check_points ["value"] sp_check_points) (c_scaled : Can P w K mg base 1 "scaled" s_scaled ["point"] sp_scaled) (c_heading : Can P w K mg base 1 "heading" s_heading ["start", "goal"] sp_heading) (c_sorted_by : Can P w K mg base 9 "sorted_by" s_sorted_by ["rows", "is_below"] (sp_sorted_by F_is_turned_less)) (gF_is_turned_less : mg "is_turned_less" = some (.ref F_is_turned_less)) (f : Addr) (cd : Value) (A : Around) (outer : List Env) (s : Shared) (H : Hp) (E : XK) (hG : A.guards = some []) (hr : Room k (A.deeper (envOfC "in_turn" (defScope s_in_turn) s.heap.objs.size f cd))) :
    PDSs (cxD P w K mg base N_in_turn "in_turn" (defScope s_in_turn) f cd A outer s H E) (defBody s_in_turn) (b_in_turn F_is_turned_less) :=
  (pss_dcons (psd_expr (pd_call c_check_point hG (hr.mono (by omega)) rfl (pda_cons (pd 0) pda_nil))) (pss_dcons (psd_expr (pd_call c_check_points hG (hr.mono (by omega)) rfl (pda_cons (pd 1) pda_nil))) (pss_dcons (psd_for PassesOwn.never rfl (pdi_enum rfl T.n_enumerate (pda_cons (pd 1) pda_nil)) (pdg_tup (n := 2) rfl (pdgs_cons (pdg_name (i := 2) sc_in_turn.nd rfl (by first | exact .inl rfl | exact .inr rfl)) (pdgs_cons (pdg_name (i := 3) sc_in_turn.nd rfl (by first | exact .inl rfl | exact .inr rfl)) pdgs_nil))) (pss_done (psd_if (pdt_cmp (o_eq hr.units) (pd 3) (pd 0) (nomark _)) (pss_done psd_never) pss_dnil))) (pss_dcons (psd_set (i := 4) sc_in_turn.nd rfl (by first | exact .inl rfl | exact .inr rfl) (pd_call c_scaled hG (hr.mono (by omega)) rfl (pda_cons (pd 0) pda_nil))) (pss_dcons (psd_setLcP (i := 5) hm_val (Pat.tup [(Pat.nm 2), (Pat.nm 3)]) [("index", 2), ("goal", 3)] (by intro i; simp [slots, slotsAll]) rfl sc_in_turn.nd rfl rfl rfl (pdi_enum rfl T.n_enumerate (pda_cons (pd 1) pda_nil)) (blkOk_by (N := N_in_turn) (sc := defScope s_in_turn) (by decide +kernel)) (fun _ _ _ _ _ => (pg_tup (n := 2) rfl (pgs_cons (pg_name (i := 2) sc_in_turn.nd rfl (Or.inl rfl)) (pgs_cons (pg_name (i := 3) sc_in_turn.nd rfl (Or.inl rfl)) pgs_nil)))) (fun _ _ _ _ _ => pdts_nil) (fun _ _ _ _ _ => (pd_tup (pda_cons (pd_call c_heading hG (hr.mono (by omega)) rfl (pda_cons (pd 4) (pda_cons (pd_call c_scaled hG (hr.mono (by omega)) rfl (pda_cons (pd 3) pda_nil)) pda_nil))) (pda_cons (pd 2) pda_nil))))) (pss_done (psd_ret (pd_callTy c_tuple rfl T.n_tuple bt_tuple (pda_cons (pd_lcP hm_val (Pat.tup [(Pat.nm 6), (Pat.nm 2)]) [("_", 6), ("index", 2)] (by intro i; simp [slots, slotsAll]) rfl sc_in_turn.nd (pdi_seq (pd_call c_sorted_by hG (hr.mono (by omega)) rfl (pda_cons (pd 5) (pda_cons (pd_gfn rfl gF_is_turned_less) pda_nil)))) (blkOk_by (N := N_in_turn) (sc := defScope s_in_turn) (by decide +kernel)) (fun _ _ _ _ _ => (pg_tup (n := 2) rfl (pgs_cons (pg_name (i := 6) sc_in_turn.nd rfl (Or.inl rfl)) (pgs_cons (pg_name (i := 2) sc_in_turn.nd rfl (Or.inl rfl)) pgs_nil)))) (fun _ _ _ _ _ => pdts_nil) (fun _ _ _ _ _ => (pd 2))) pda_nil)))))))))
theorem t_spring {k : Nat} (hk : 0 ≤ k) (T : Tx K mg)  (f : Addr) (cd : Value) (A : Around) (outer : List Env) (s : Shared) (H : Hp) (E : XK) (hG : A.guards = some []) (hr : Room k (A.deeper (envOfC "_law_spring" (defScope s_spring) s.heap.objs.size f cd))) :
    PDSs (cxD P w K mg base N_spring "_law_spring" (defScope s_spring) f cd A outer s H E) (defBody s_spring) (b_spring 744071) :=
  (pss_dcons (psd_set (i := 2) sc_spring.nd rfl (by first | exact .inl rfl | exact .inr rfl) (pd_bin o_add pd_int (pd_bin o_mul pd_int (pd 1)))) (pss_dcons (psd_for PassesOwn.never rfl (pdi_seq (pd_sl (pd 0) pdo_none (pdo_some pd_int))) (pdg_name (i := 3) sc_spring.nd rfl (by first | exact .inl rfl | exact .inr rfl)) (pss_done (psd_set (i := 2) sc_spring.nd rfl (by first | exact .inl rfl | exact .inr rfl) (pd_bin o_mod (pd_callTy c_int rfl T.n_int bt_int (pda_cons (pd_bin o_add (pd_bin o_add (pd_bin o_mul (pd 2) pd_int) (pd_bin o_mod (pd_callTy c_int rfl T.n_int bt_int (pda_cons (pd 3) pda_nil)) pd_int)) pd_int) pda_nil)) pd_int)))) (pss_dcons (psd_set (i := 4) sc_spring.nd rfl (by first | exact .inl rfl | exact .inr rfl) (pd_if (pdt_cmp o_lt (pd 1) (pd_callB c_len rfl T.n_len bt_len (pda_cons (pd 0) pda_nil)) (nomark _)) (pd_callTy c_int rfl T.n_int bt_int (pda_cons (pd_ix (pd 0) (pd 1) (fun _ _ => rfl)) pda_nil)) pd_int)) (pss_dcons (psd_set (i := 2) sc_spring.nd rfl (by first | exact .inl rfl | exact .inr rfl) (pd_bin o_mod (pd_callTy c_int rfl T.n_int bt_int (pda_cons (pd_bin o_add (pd_bin o_add (pd_bin o_mul (pd 2) pd_int) (pd_bin o_mul (pd_bin o_mod (pd_callTy c_int rfl T.n_int bt_int (pda_cons (pd 4) pda_nil)) pd_int) pd_int)) pd_int) pda_nil)) pd_int)) (pss_done (psd_ret (pd_lst (pda_cons (pd_if (pdt_w (pdw_or (pdt_cmp o_lt (pd 4) pd_int (nomark _)) (pdw_or1 (pdt_cmp o_ge (pd 4) (pd_bin o_pow pd_int pd_int) (nomark _))))) (pd_callB c_abs rfl T.n_abs bt_abs (pda_cons (pd 4) pda_nil)) pd_int) (pda_cons (pd 2) (pda_cons pd_int pda_nil))))))))))
theorem t_draw {k : Nat} (hk : 0 ≤ k) (T : Tx K mg)  (f : Addr) (cd : Value) (A : Around) (outer : List Env) (s : Shared) (H : Hp) (E : XK) (hG : A.guards = some []) (hr : Room k (A.deeper (envOfC "_law_draw" (defScope s_draw) s.heap.objs.size f cd))) :
    PDSs (cxD P w K mg base N_draw "_law_draw" (defScope s_draw) f cd A outer s H E) (defBody s_draw) b_draw :=
  (pss_dcons (psd_if (pdt_cmp o_gt (pd_ix (pd 0) pd_int (fun _ _ => rfl)) pd_int (nomark _)) (pss_dcons (psd_asg (pd_callB c_divmod rfl T.n_divmod bt_divmod (pda_cons (pd_ix (pd 0) pd_int (fun _ _ => rfl)) (pda_cons (pd 1) pda_nil))) (pdg_tup (n := 2) rfl (pdgs_cons (pdg_sub (pd 0) pd_int) (pdgs_cons (pdg_name (i := 2) sc_draw.nd rfl (by first | exact .inl rfl | exact .inr rfl)) pdgs_nil)))) (pss_done (psd_ret (pd 2)))) pss_dnil) (pss_dcons (psd_asg (pd_bin o_add (pd_ix (pd 0) pd_int (fun _ _ => rfl)) pd_int) (pdg_sub (pd 0) pd_int)) (pss_dcons (psd_set (i := 3) sc_draw.nd rfl (by first | exact .inl rfl | exact .inr rfl) (pd_bin o_mod (pd_callTy c_int rfl T.n_int bt_int (pda_cons (pd_bin o_add (pd_ix (pd 0) pd_int (fun _ _ => rfl)) (pd_bin o_mul pd_int (pd_ix (pd 0) pd_int (fun _ _ => rfl)))) pda_nil)) pd_int)) (pss_dcons (psd_asg (pd_bin o_mod (pd_callTy c_int rfl T.n_int bt_int (pda_cons (pd_bin o_add (pd_bin o_mul (pd 3) (pd_bin o_add (pd_bin o_mod (pd_callTy c_int rfl T.n_int bt_int (pda_cons (pd 3) pda_nil)) pd_int) pd_int)) (pd_bin o_mul pd_int (pd_ix (pd 0) pd_int (fun _ _ => rfl)))) pda_nil)) pd_int) (pdg_sub (pd 0) pd_int)) (pss_done (psd_ret (pd_bin o_mod (pd_callTy c_int rfl T.n_int bt_int (pda_cons (pd_bin o_div (pd_ix (pd 0) pd_int (fun _ _ => rfl)) pd_int) pda_nil)) (pd 1))))))))
theorem t_one_of {k : Nat} (hk : 1 ≤ k) (T : Tx K mg) (c_draw : Can P w K mg base 1 "_law_draw" s_draw ["_law_spring_here", "_law_many"] sp_draw) (f : Addr) (cd : Value) (A : Around) (outer : List Env) (s : Shared) (H : Hp) (E : XK) (hG : A.guards = some []) (hr : Room k (A.deeper (envOfC "_law_one_of" (defScope s_one_of) s.heap.objs.size f cd))) :
    PDSs (cxD P w K mg base N_one_of "_law_one_of" (defScope s_one_of) f cd A outer s H E) (defBody s_one_of) b_one_of :=
  (pss_done (psd_ret (pd_ix (pd 1) (pd_call c_draw hG (hr.mono (by omega)) rfl (pda_cons (pd 0) (pda_cons (pd_callB c_len rfl T.n_len bt_len (pda_cons (pd 1) pda_nil)) pda_nil))) (fun _ _ => rfl))))
theorem t_divisor {k : Nat} (hk : 0 ≤ k) (T : Tx K mg)  (f : Addr) (cd : Value) (A : Around) (outer : List Env) (s : Shared) (H : Hp) (E : XK) (hG : A.guards = some []) (hr : Room k (A.deeper (envOfC "_law_divisor" (defScope s_divisor) s.heap.objs.size f cd))) :
    PDSs (cxD P w K mg base N_divisor "_law_divisor" (defScope s_divisor) f cd A outer s H E) (defBody s_divisor) b_divisor :=
  (pss_dcons (psd_par (i := 2) (j := 3) rfl sc_divisor.nd rfl rfl (by decide) rfl rfl (pda_cons (pd_callB c_abs rfl T.n_abs bt_abs (pda_cons (pd 0) pda_nil)) (pda_cons (pd_callB c_abs rfl T.n_abs bt_abs (pda_cons (pd 1) pda_nil)) pda_nil)) (by rfl)) (pss_dcons (psd_while PassesOwn.never (pdt_cmp (o_ne hr.units) (pd 3) pd_int (nomark _)) (pss_done (psd_par (i := 2) (j := 3) rfl sc_divisor.nd rfl rfl (by decide) rfl rfl (pda_cons (pd 3) (pda_cons (pd_bin o_mod (pd_callTy c_int rfl T.n_int bt_int (pda_cons (pd 2) pda_nil)) (pd 3)) pda_nil)) (by rfl)))) (pss_done (psd_ret (pd 2)))))
theorem t_part {k : Nat} (hk : 1 ≤ k) (T : Tx K mg) (c_divisor : Can P w K mg base 1 "_law_divisor" s_divisor ["_law_one", "_law_two"] sp_divisor) (f : Addr) (cd : Value) (A : Around) (outer : List Env) (s : Shared) (H : Hp) (E : XK) (hG : A.guards = some []) (hr : Room k (A.deeper (envOfC "_law_part" (defScope s_part) s.heap.objs.size f cd))) :
    PDSs (cxD P w K mg base N_part "_law_part" (defScope s_part) f cd A outer s H E) (defBody s_part) b_part :=
  (pss_dcons (psd_set (i := 2) sc_part.nd rfl (by first | exact .inl rfl | exact .inr rfl) (pd_if (pdt_cmp o_gt (pd 1) pd_int (nomark _)) (pd_call c_divisor hG (hr.mono (by omega)) rfl (pda_cons (pd 0) (pda_cons (pd 1) pda_nil))) (pd_bin o_sub pd_int (pd_call c_divisor hG (hr.mono (by omega)) rfl (pda_cons (pd 0) (pda_cons (pd 1) pda_nil)))))) (pss_done (psd_ret (pd_tup (pda_cons (pd_bin o_div (pd 0) (pd 2)) (pda_cons (pd_bin o_div (pd 1) (pd 2)) pda_nil))))))
theorem t_place {k : Nat} (hk : 1 ≤ k) (T : Tx K mg) (c_divisor : Can P w K mg base 1 "_law_divisor" s_divisor ["_law_one", "_law_two"] sp_divisor) (f : Addr) (cd : Value) (A : Around) (outer : List Env) (s : Shared) (H : Hp) (E : XK) (hG : A.guards = some []) (hr : Room k (A.deeper (envOfC "_law_place" (defScope s_place) s.heap.objs.size f cd))) :
    PDSs (cxD P w K mg base N_place "_law_place" (defScope s_place) f cd A outer s H E) (defBody s_place) b_place :=
  (pss_dcons (psd_set (i := 3) sc_place.nd rfl (by first | exact .inl rfl | exact .inr rfl) (pd_if (pdt_cmp o_gt (pd 2) pd_int (nomark _)) (pd_call c_divisor hG (hr.mono (by omega)) rfl (pda_cons (pd_call c_divisor hG (hr.mono (by omega)) rfl (pda_cons (pd 0) (pda_cons (pd 1) pda_nil))) (pda_cons (pd 2) pda_nil))) (pd_bin o_sub pd_int (pd_call c_divisor hG (hr.mono (by omega)) rfl (pda_cons (pd_call c_divisor hG (hr.mono (by omega)) rfl (pda_cons (pd 0) (pda_cons (pd 1) pda_nil))) (pda_cons (pd 2) pda_nil)))))) (pss_done (psd_ret (pd_tup (pda_cons (pd_bin o_divF (pd 0) (pd 3)) (pda_cons (pd_bin o_divF (pd 1) (pd 3)) (pda_cons (pd_bin o_divF (pd 2) (pd 3)) pda_nil)))))))
theorem t_told {k : Nat} (hk : 2 ≤ k) (T : Tx K mg) (c_part : Can P w K mg base 2 "_law_part" s_part ["_law_top", "_law_base"] sp_part) (f : Addr) (cd : Value) (A : Around) (outer : List Env) (s : Shared) (H : Hp) (E : XK) (hG : A.guards = some []) (hr : Room k (A.deeper (envOfC "_law_told" (defScope s_told) s.heap.objs.size f cd))) :
    PDSs (cxD P w K mg base N_told "_law_told" (defScope s_told) f cd A outer s H E) (defBody s_told) b_told :=
  (pss_done (psd_ret (pd_tup (pda_cons (pd_call c_part hG (hr.mono (by omega)) rfl (pda_cons (pd_ix (pd 0) pd_int (fun _ _ => rfl)) (pda_cons (pd_ix (pd 0) pd_int (fun _ _ => rfl)) pda_nil))) (pda_cons (pd_call c_part hG (hr.mono (by omega)) rfl (pda_cons (pd_ix (pd 0) pd_int (fun _ _ => rfl)) (pda_cons (pd_ix (pd 0) pd_int (fun _ _ => rfl)) pda_nil))) pda_nil)))))
theorem t_own {k : Nat} (hk : 2 ≤ k) (T : Tx K mg) (c_place : Can P w K mg base 2 "_law_place" s_place ["_law_x", "_law_y", "_law_w"] sp_place) (f : Addr) (cd : Value) (A : Around) (outer : List Env) (s : Shared) (H : Hp) (E : XK) (hG : A.guards = some []) (hr : Room k (A.deeper (envOfC "_law_own" (defScope s_own) s.heap.objs.size f cd))) :
    PDSs (cxD P w K mg base N_own "_law_own" (defScope s_own) f cd A outer s H E) (defBody s_own) b_own :=
  (pss_dcons (psd_asg (pd 0) (pdg_tup (n := 2) rfl (pdgs_cons (pdg_tup (n := 2) rfl (pdgs_cons (pdg_name (i := 1) sc_own.nd rfl (by first | exact .inl rfl | exact .inr rfl)) (pdgs_cons (pdg_name (i := 2) sc_own.nd rfl (by first | exact .inl rfl | exact .inr rfl)) pdgs_nil))) (pdgs_cons (pdg_tup (n := 2) rfl (pdgs_cons (pdg_name (i := 3) sc_own.nd rfl (by first | exact .inl rfl | exact .inr rfl)) (pdgs_cons (pdg_name (i := 4) sc_own.nd rfl (by first | exact .inl rfl | exact .inr rfl)) pdgs_nil))) pdgs_nil)))) (pss_done (psd_ret (pd_call c_place hG (hr.mono (by omega)) rfl (pda_cons (pd_bin o_mul (pd 1) (pd 4)) (pda_cons (pd_bin o_mul (pd 3) (pd 2)) (pda_cons (pd_bin o_mul (pd 2) (pd 4)) pda_nil)))))))
theorem t_l_half {k : Nat} (hk : 0 ≤ k) (T : Tx K mg)  (f : Addr) (cd : Value) (A : Around) (outer : List Env) (s : Shared) (H : Hp) (E : XK) (hG : A.guards = some []) (hr : Room k (A.deeper (envOfC "_law_half" (defScope s_l_half) s.heap.objs.size f cd))) :
    PDSs (cxD P w K mg base N_l_half "_law_half" (defScope s_l_half) f cd A outer s H E) (defBody s_l_half) b_l_half :=
  (pss_done (psd_ret (pd_if (pdt_w (pdw_or (pdt_cmp o_gt (pd_ix (pd 0) pd_int (fun _ _ => rfl)) pd_int (nomark _)) (pdw_or1 (pdt_w (pdw_and (pdt_cmp (o_eq hr.units) (pd_ix (pd 0) pd_int (fun _ _ => rfl)) pd_int (nomark _)) (pdw_and1 (pdt_cmp o_gt (pd_ix (pd 0) pd_int (fun _ _ => rfl)) pd_int (nomark _)))))))) pd_int pd_int)))
theorem t_l_is_ahead {k : Nat} (hk : 1 ≤ k) (T : Tx K mg) (c_l_half : Can P w K mg base 1 "_law_half" s_l_half ["_law_line"] sp_l_half) (f : Addr) (cd : Value) (A : Around) (outer : List Env) (s : Shared) (H : Hp) (E : XK) (hG : A.guards = some []) (hr : Room k (A.deeper (envOfC "_law_is_ahead" (defScope s_l_is_ahead) s.heap.objs.size f cd))) :
    PDSs (cxD P w K mg base N_l_is_ahead "_law_is_ahead" (defScope s_l_is_ahead) f cd A outer s H E) (defBody s_l_is_ahead) b_l_is_ahead :=
  (pss_dcons (psd_par (i := 2) (j := 3) rfl sc_l_is_ahead.nd rfl rfl (by decide) rfl rfl (pda_cons (pd_call c_l_half hG (hr.mono (by omega)) rfl (pda_cons (pd 0) pda_nil)) (pda_cons (pd_call c_l_half hG (hr.mono (by omega)) rfl (pda_cons (pd 1) pda_nil)) pda_nil)) (by rfl)) (pss_done (psd_ret (pd_or (pd_cmp o_lt (pd 2) (pd 3) (nomark _)) (pd_one (pd_and (pd_cmp (o_eq hr.units) (pd 2) (pd 3) (nomark _)) (pd_one (pd_cmp o_gt (pd_bin o_sub (pd_bin o_mul (pd_ix (pd 0) pd_int (fun _ _ => rfl)) (pd_ix (pd 1) pd_int (fun _ _ => rfl))) (pd_bin o_mul (pd_ix (pd 0) pd_int (fun _ _ => rfl)) (pd_ix (pd 1) pd_int (fun _ _ => rfl)))) pd_int (nomark _)))))))))
theorem t_by_lines {k : Nat} (hk : 2 ≤ k) (T : Tx K mg) (c_l_is_ahead : Can P w K mg base 2 "_law_is_ahead" s_l_is_ahead ["_law_one", "_law_two"] sp_l_is_ahead) (f : Addr) (cd : Value) (A : Around) (outer : List Env) (s : Shared) (H : Hp) (E : XK) (hG : A.guards = some []) (hr : Room k (A.deeper (envOfC "_law_by_lines" (defScope s_by_lines) s.heap.objs.size f cd))) :
    PDSs (cxD P w K mg base N_by_lines "_law_by_lines" (defScope s_by_lines) f cd A outer s H E) (defBody s_by_lines) b_by_lines :=
  (pss_dcons (psd_set (i := 1) sc_by_lines.nd rfl (by first | exact .inl rfl | exact .inr rfl) (pd_lst pda_nil)) (pss_dcons (psd_for PassesOwn.never rfl (pdi_seq (pd 0)) (pdg_name (i := 2) sc_by_lines.nd rfl (by first | exact .inl rfl | exact .inr rfl)) (pss_dcons (psd_set (i := 3) sc_by_lines.nd rfl (by first | exact .inl rfl | exact .inr rfl) (pd_callB c_len rfl T.n_len bt_len (pda_cons (pd 1) pda_nil))) (pss_dcons (psd_while PassesOwn.never (pdt_w (pdw_and (pdt_cmp o_gt (pd 3) pd_int (nomark _)) (pdw_and1 (pdt_val (pd_call c_l_is_ahead hG (hr.mono (by omega)) rfl (pda_cons (pd_ix (pd 2) pd_int (fun _ _ => rfl)) (pda_cons (pd_ix (pd_ix (pd 1) (pd_bin o_sub (pd 3) pd_int) (fun _ _ => rfl)) pd_int (fun _ _ => rfl)) pda_nil))))))) (pss_done (psd_set (i := 3) sc_by_lines.nd rfl (by first | exact .inl rfl | exact .inr rfl) (pd_bin o_sub (pd 3) pd_int)))) (pss_done (psd_expr (pd_insert (pd 1) (pd 3) (pd 2))))))) (pss_done (psd_ret (pd 1)))))
theorem t_frame {k : Nat} (hk : 2 ≤ k) (T : Tx K mg) (c_one_of : Can P w K mg base 2 "_law_one_of" s_one_of ["_law_spring_here", "_law_some"] sp_one_of) (f : Addr) (cd : Value) (A : Around) (outer : List Env) (s : Shared) (H : Hp) (E : XK) (hG : A.guards = some []) (hr : Room k (A.deeper (envOfC "_law_frame" (defScope s_frame) s.heap.objs.size f cd))) :
    PDSs (cxD P w K mg base N_frame "_law_frame" (defScope s_frame) f cd A outer s H E) (defBody s_frame) b_frame :=
  (pss_dcons (psd_set (i := 1) sc_frame.nd rfl (by first | exact .inl rfl | exact .inr rfl) (pd_call c_one_of hG (hr.mono (by omega)) rfl (pda_cons (pd 0) (pda_cons (pd_tup (pda_cons pd_int (pda_cons pd_int (pda_cons pd_int pda_nil)))) pda_nil)))) (pss_dcons (psd_asg (pd_call c_one_of hG (hr.mono (by omega)) rfl (pda_cons (pd 0) (pda_cons (pd_tup (pda_cons (pd_tup (pda_cons pd_int (pda_cons pd_int (pda_cons pd_int (pda_cons pd_int pda_nil))))) (pda_cons (pd_tup (pda_cons pd_int (pda_cons pd_int (pda_cons pd_int (pda_cons pd_int pda_nil))))) (pda_cons (pd_tup (pda_cons (pd_neg pd_int) (pda_cons (pd_neg pd_int) (pda_cons pd_int (pda_cons pd_int pda_nil))))) (pda_cons (pd_tup (pda_cons (pd_neg pd_int) (pda_cons pd_int (pda_cons pd_int (pda_cons pd_int pda_nil))))) (pda_cons (pd_tup (pda_cons pd_int (pda_cons (pd_neg pd_int) (pda_cons pd_int (pda_cons pd_int pda_nil))))) (pda_cons (pd_tup (pda_cons pd_int (pda_cons pd_int (pda_cons pd_int (pda_cons pd_int pda_nil))))) (pda_cons (pd_tup (pda_cons (pd_neg pd_int) (pda_cons pd_int (pda_cons pd_int (pda_cons pd_int pda_nil))))) (pda_cons (pd_tup (pda_cons (pd_neg pd_int) (pda_cons (pd_neg pd_int) (pda_cons pd_int (pda_cons pd_int pda_nil))))) pda_nil))))))))) pda_nil))) (pdg_tup (n := 4) rfl (pdgs_cons (pdg_name (i := 2) sc_frame.nd rfl (by first | exact .inl rfl | exact .inr rfl)) (pdgs_cons (pdg_name (i := 3) sc_frame.nd rfl (by first | exact .inl rfl | exact .inr rfl)) (pdgs_cons (pdg_name (i := 4) sc_frame.nd rfl (by first | exact .inl rfl | exact .inr rfl)) (pdgs_cons (pdg_name (i := 5) sc_frame.nd rfl (by first | exact .inl rfl | exact .inr rfl)) pdgs_nil)))))) (pss_done (psd_ret (pd_tup (pda_cons (pd 2) (pda_cons (pd 3) (pda_cons (pd 4) (pda_cons (pd 5) (pda_cons (pd 1) pda_nil))))))))))
theorem t_grid {k : Nat} (hk : 2 ≤ k) (T : Tx K mg) (c_part : Can P w K mg base 2 "_law_part" s_part ["_law_top", "_law_base"] sp_part) (f : Addr) (cd : Value) (A : Around) (outer : List Env) (s : Shared) (H : Hp) (E : XK) (hG : A.guards = some []) (hr : Room k (A.deeper (envOfC "_law_grid" (defScope s_grid) s.heap.objs.size f cd))) :
    PDSs (cxD P w K mg base N_grid "_law_grid" (defScope s_grid) f cd A outer s H E) (defBody s_grid) b_grid :=
  (pss_dcons (psd_asg (pd 0) (pdg_tup (n := 5) rfl (pdgs_cons (pdg_name (i := 4) sc_grid.nd rfl (by first | exact .inl rfl | exact .inr rfl)) (pdgs_cons (pdg_name (i := 5) sc_grid.nd rfl (by first | exact .inl rfl | exact .inr rfl)) (pdgs_cons (pdg_name (i := 6) sc_grid.nd rfl (by first | exact .inl rfl | exact .inr rfl)) (pdgs_cons (pdg_name (i := 7) sc_grid.nd rfl (by first | exact .inl rfl | exact .inr rfl)) (pdgs_cons (pdg_name (i := 8) sc_grid.nd rfl (by first | exact .inl rfl | exact .inr rfl)) pdgs_nil))))))) (pss_done (psd_ret (pd_tup (pda_cons (pd_call c_part hG (hr.mono (by omega)) rfl (pda_cons (pd_bin o_add (pd_bin o_mul (pd 4) (pd 3)) (pd_bin o_mul (pd 6) (pd 1))) (pda_cons (pd_bin o_mul (pd 7) (pd 3)) pda_nil))) (pda_cons (pd_call c_part hG (hr.mono (by omega)) rfl (pda_cons (pd_bin o_add (pd_bin o_mul (pd 5) (pd 3)) (pd_bin o_mul (pd 6) (pd 2))) (pda_cons (pd_bin o_mul (pd 7) (pd 3)) pda_nil))) pda_nil))))))
theorem t_dot {k : Nat} (hk : 3 ≤ k) (T : Tx K mg) (c_one_of : Can P w K mg base 2 "_law_one_of" s_one_of ["_law_spring_here", "_law_some"] sp_one_of) (c_draw : Can P w K mg base 1 "_law_draw" s_draw ["_law_spring_here", "_law_many"] sp_draw) (c_grid : Can P w K mg base 3 "_law_grid" s_grid ["_law_frame_here", "_law_i", "_law_j", "_law_n"] sp_grid) (f : Addr) (cd : Value) (A : Around) (outer : List Env) (s : Shared) (H : Hp) (E : XK) (hG : A.guards = some []) (hr : Room k (A.deeper (envOfC "_law_dot" (defScope s_dot) s.heap.objs.size f cd))) :
    PDSs (cxD P w K mg base N_dot "_law_dot" (defScope s_dot) f cd A outer s H E) (defBody s_dot) b_dot :=
  (pss_dcons (psd_set (i := 2) sc_dot.nd rfl (by first | exact .inl rfl | exact .inr rfl) (pd_call c_one_of hG (hr.mono (by omega)) rfl (pda_cons (pd 0) (pda_cons (pd_tup (pda_cons pd_int (pda_cons pd_int (pda_cons pd_int (pda_cons pd_int (pda_cons pd_int pda_nil)))))) pda_nil)))) (pss_dcons (psd_par (i := 3) (j := 4) rfl sc_dot.nd rfl rfl (by decide) rfl rfl (pda_cons (pd_call c_draw hG (hr.mono (by omega)) rfl (pda_cons (pd 0) (pda_cons (pd_bin o_add (pd_bin o_mul (pd 2) (pd_ix (pd 1) pd_int (fun _ _ => rfl))) pd_int) pda_nil))) (pda_cons (pd_call c_draw hG (hr.mono (by omega)) rfl (pda_cons (pd 0) (pda_cons (pd_bin o_add (pd_bin o_mul (pd 2) (pd_ix (pd 1) pd_int (fun _ _ => rfl))) pd_int) pda_nil))) pda_nil)) (by rfl)) (pss_done (psd_ret (pd_call c_grid hG (hr.mono (by omega)) rfl (pda_cons (pd 1) (pda_cons (pd 3) (pda_cons (pd 4) (pda_cons (pd 2) pda_nil)))))))))
theorem t_others {k : Nat} (hk : 4 ≤ k) (T : Tx K mg) (c_one_of : Can P w K mg base 2 "_law_one_of" s_one_of ["_law_spring_here", "_law_some"] sp_one_of) (c_draw : Can P w K mg base 1 "_law_draw" s_draw ["_law_spring_here", "_law_many"] sp_draw) (c_place : Can P w K mg base 2 "_law_place" s_place ["_law_x", "_law_y", "_law_w"] sp_place) (c_own : Can P w K mg base 3 "_law_own" s_own ["_law_told_here"] sp_own) (c_dot : Can P w K mg base 4 "_law_dot" s_dot ["_law_spring_here", "_law_frame_here"] sp_dot) (c_told : Can P w K mg base 3 "_law_told" s_told ["_law_place_here"] sp_told) (f : Addr) (cd : Value) (A : Around) (outer : List Env) (s : Shared) (H : Hp) (E : XK) (hG : A.guards = some []) (hr : Room k (A.deeper (envOfC "_law_others" (defScope s_others) s.heap.objs.size f cd))) :
    PDSs (cxD P w K mg base N_others "_law_others" (defScope s_others) f cd A outer s H E) (defBody s_others) b_others :=
  (pss_dcons (psd_unp (n := 2) rfl (pda_cons (pd_lst pda_nil) (pda_cons (pd_tup (pda_cons (pd_tup (pda_cons pd_int (pda_cons pd_int pda_nil))) (pda_cons (pd_tup (pda_cons pd_int (pda_cons pd_int pda_nil))) (pda_cons (pd_tup (pda_cons (pd_neg pd_int) (pda_cons pd_int pda_nil))) (pda_cons (pd_tup (pda_cons pd_int (pda_cons (pd_neg pd_int) pda_nil))) (pda_cons (pd_tup (pda_cons pd_int (pda_cons pd_int pda_nil))) (pda_cons (pd_tup (pda_cons (pd_neg pd_int) (pda_cons pd_int pda_nil))) (pda_cons (pd_tup (pda_cons (pd_neg pd_int) (pda_cons (pd_neg pd_int) pda_nil))) (pda_cons (pd_tup (pda_cons pd_int (pda_cons (pd_neg pd_int) pda_nil))) (pda_cons (pd_tup (pda_cons pd_int (pda_cons pd_int pda_nil))) (pda_cons (pd_tup (pda_cons pd_int (pda_cons (pd_neg pd_int) pda_nil))) pda_nil))))))))))) pda_nil)) (pdgs_cons (pdg_name (i := 3) sc_others.nd rfl (by first | exact .inl rfl | exact .inr rfl)) (pdgs_cons (pdg_name (i := 4) sc_others.nd rfl (by first | exact .inl rfl | exact .inr rfl)) pdgs_nil))) (pss_dcons (psd_setLc (i := 5) hm_val rfl sc_others.nd rfl rfl rfl (pdi_rng1 rfl T.n_range (pda_cons pd_int pda_nil)) (blkOk_by (N := N_others) (sc := defScope s_others) (by decide +kernel)) (fun _ _ _ _ _ => pg_name (i := 6) sc_others.nd rfl (Or.inl rfl)) (fun _ _ _ _ _ => pdts_nil) (fun _ _ _ _ _ => (pd_call c_one_of hG (hr.mono (by omega)) rfl (pda_cons (pd 0) (pda_cons (pd 4) pda_nil))))) (pss_dcons (psd_for PassesOwn.never rfl (pdi_rng1 rfl T.n_range (pda_cons (pd_if (pdt_cmp (o_eq hr.units) (pd_call c_draw hG (hr.mono (by omega)) rfl (pda_cons (pd 0) (pda_cons pd_int pda_nil))) pd_int (nomark _)) pd_int (pd_call c_draw hG (hr.mono (by omega)) rfl (pda_cons (pd 0) (pda_cons pd_int pda_nil)))) pda_nil)) (pdg_name (i := 6) sc_others.nd rfl (by first | exact .inl rfl | exact .inr rfl)) (pss_dcons (psd_if (pdt_cmp o_gt (pd_call c_draw hG (hr.mono (by omega)) rfl (pda_cons (pd 0) (pda_cons pd_int pda_nil))) pd_int (nomark _)) (pss_dcons (psd_asg (pd_call c_one_of hG (hr.mono (by omega)) rfl (pda_cons (pd 0) (pda_cons (pd 5) pda_nil))) (pdg_tup (n := 2) rfl (pdgs_cons (pdg_name (i := 7) sc_others.nd rfl (by first | exact .inl rfl | exact .inr rfl)) (pdgs_cons (pdg_name (i := 8) sc_others.nd rfl (by first | exact .inl rfl | exact .inr rfl)) pdgs_nil)))) (pss_dcons (psd_par (i := 9) (j := 10) rfl sc_others.nd rfl rfl (by decide) rfl rfl (pda_cons (pd_bin o_add pd_int (pd_call c_draw hG (hr.mono (by omega)) rfl (pda_cons (pd 0) (pda_cons pd_int pda_nil)))) (pda_cons (pd_bin o_add pd_int (pd_call c_draw hG (hr.mono (by omega)) rfl (pda_cons (pd 0) (pda_cons pd_int pda_nil)))) pda_nil)) (by rfl)) (pss_done (psd_set (i := 11) sc_others.nd rfl (by first | exact .inl rfl | exact .inr rfl) (pd_call c_place hG (hr.mono (by omega)) rfl (pda_cons (pd_bin o_add (pd_bin o_mul (pd_ix (pd 2) pd_int (fun _ _ => rfl)) (pd 10)) (pd_bin o_mul (pd_bin o_mul (pd 9) (pd 7)) (pd_ix (pd 2) pd_int (fun _ _ => rfl)))) (pda_cons (pd_bin o_add (pd_bin o_mul (pd_ix (pd 2) pd_int (fun _ _ => rfl)) (pd 10)) (pd_bin o_mul (pd_bin o_mul (pd 9) (pd 8)) (pd_ix (pd 2) pd_int (fun _ _ => rfl)))) (pda_cons (pd_bin o_mul (pd_ix (pd 2) pd_int (fun _ _ => rfl)) (pd 10)) pda_nil)))))))) (pss_done (psd_set (i := 11) sc_others.nd rfl (by first | exact .inl rfl | exact .inr rfl) (pd_call c_own hG (hr.mono (by omega)) rfl (pda_cons (pd_call c_dot hG (hr.mono (by omega)) rfl (pda_cons (pd 0) (pda_cons (pd 1) pda_nil))) pda_nil))))) (pss_done (psd_if (pdt_cmp (o_ne hr.units) (pd 11) (pd 2) (nomark _)) (pss_done (psd_expr (pd_append (pd 3) (pd_call c_told hG (hr.mono (by omega)) rfl (pda_cons (pd 11) pda_nil))))) pss_dnil)))) (pss_done (psd_ret (pd 3))))))
theorem t_due {k : Nat} (hk : 3 ≤ k) (T : Tx K mg) (c_own : Can P w K mg base 3 "_law_own" s_own ["_law_told_here"] sp_own) (c_by_lines : Can P w K mg base 3 "_law_by_lines" s_by_lines ["_law_some"] sp_by_lines) (f : Addr) (cd : Value) (A : Around) (outer : List Env) (s : Shared) (H : Hp) (E : XK) (hG : A.guards = some []) (hr : Room k (A.deeper (envOfC "_law_due" (defScope s_due) s.heap.objs.size f cd))) :
    PDSs (cxD P w K mg base N_due "_law_due" (defScope s_due) f cd A outer s H E) (defBody s_due) b_due :=
  (pss_dcons (psd_set (i := 2) sc_due.nd rfl (by first | exact .inl rfl | exact .inr rfl) (pd_lst pda_nil)) (pss_dcons (psd_for PassesOwn.never rfl (pdi_enum rfl T.n_enumerate (pda_cons (pd 1) pda_nil)) (pdg_tup (n := 2) rfl (pdgs_cons (pdg_name (i := 3) sc_due.nd rfl (by first | exact .inl rfl | exact .inr rfl)) (pdgs_cons (pdg_name (i := 4) sc_due.nd rfl (by first | exact .inl rfl | exact .inr rfl)) pdgs_nil))) (pss_dcons (psd_set (i := 5) sc_due.nd rfl (by first | exact .inl rfl | exact .inr rfl) (pd_call c_own hG (hr.mono (by omega)) rfl (pda_cons (pd 4) pda_nil))) (pss_done (psd_expr (pd_append (pd 2) (pd_tup (pda_cons (pd_tup (pda_cons (pd_bin o_sub (pd_bin o_mul (pd_ix (pd 5) pd_int (fun _ _ => rfl)) (pd_ix (pd 0) pd_int (fun _ _ => rfl))) (pd_bin o_mul (pd_ix (pd 0) pd_int (fun _ _ => rfl)) (pd_ix (pd 5) pd_int (fun _ _ => rfl)))) (pda_cons (pd_bin o_sub (pd_bin o_mul (pd_ix (pd 5) pd_int (fun _ _ => rfl)) (pd_ix (pd 0) pd_int (fun _ _ => rfl))) (pd_bin o_mul (pd_ix (pd 0) pd_int (fun _ _ => rfl)) (pd_ix (pd 5) pd_int (fun _ _ => rfl)))) pda_nil))) (pda_cons (pd 3) pda_nil)))))))) (pss_done (psd_ret (pd_callTy c_tuple rfl T.n_tuple bt_tuple (pda_cons (pd_lcM hm_val rfl sc_due.nd (pdi_seq (pd_call c_by_lines hG (hr.mono (by omega)) rfl (pda_cons (pd 2) pda_nil))) (blkOk_by (N := N_due) (sc := defScope s_due) (by decide +kernel)) (fun _ _ _ _ _ => pg_name (i := 4) sc_due.nd rfl (Or.inl rfl)) (fun _ _ _ _ _ => pdts_nil) (fun _ _ _ _ _ => (pd_ix (pd 4) pd_int (fun _ _ => rfl)))) pda_nil))))))
theorem t_right {k : Nat} (hk : 10 ≤ k) (T : Tx K mg) (c_frame : Can P w K mg base 3 "_law_frame" s_frame ["_law_spring_here"] sp_frame) (c_dot : Can P w K mg base 4 "_law_dot" s_dot ["_law_spring_here", "_law_frame_here"] sp_dot) (c_own : Can P w K mg base 3 "_law_own" s_own ["_law_told_here"] sp_own) (c_others : Can P w K mg base 5 "_law_others" s_others ["_law_spring_here", "_law_frame_here", "_law_here"] sp_others) (c_due : Can P w K mg base 4 "_law_due" s_due ["_law_here", "_law_row"] sp_due) (c_in_turn : Can P w K mg base 10 "in_turn" s_in_turn ["point", "points"] sp_in_turn) (f : Addr) (cd : Value) (A : Around) (outer : List Env) (s : Shared) (H : Hp) (E : XK) (hG : A.guards = some []) (hr : Room k (A.deeper (envOfC "_law_right" (defScope s_right) s.heap.objs.size f cd))) :
    PDSs (cxD P w K mg base N_right "_law_right" (defScope s_right) f cd A outer s H E) (defBody s_right) b_right :=
  (pss_dcons (psd_set (i := 1) sc_right.nd rfl (by first | exact .inl rfl | exact .inr rfl) (pd_call c_frame hG (hr.mono (by omega)) rfl (pda_cons (pd 0) pda_nil))) (pss_dcons (psd_set (i := 2) sc_right.nd rfl (by first | exact .inl rfl | exact .inr rfl) (pd_call c_dot hG (hr.mono (by omega)) rfl (pda_cons (pd 0) (pda_cons (pd 1) pda_nil)))) (pss_dcons (psd_set (i := 3) sc_right.nd rfl (by first | exact .inl rfl | exact .inr rfl) (pd_call c_own hG (hr.mono (by omega)) rfl (pda_cons (pd 2) pda_nil))) (pss_dcons (psd_set (i := 4) sc_right.nd rfl (by first | exact .inl rfl | exact .inr rfl) (pd_callTy c_tuple rfl T.n_tuple bt_tuple (pda_cons (pd_call c_others hG (hr.mono (by omega)) rfl (pda_cons (pd 0) (pda_cons (pd 1) (pda_cons (pd 3) pda_nil)))) pda_nil))) (pss_dcons (psd_set (i := 5) sc_right.nd rfl (by first | exact .inl rfl | exact .inr rfl) (pd_rev (pd 4))) (pss_dcons (psd_par (i := 6) (j := 7) rfl sc_right.nd rfl rfl (by decide) rfl rfl (pda_cons (pd_call c_due hG (hr.mono (by omega)) rfl (pda_cons (pd 3) (pda_cons (pd 4) pda_nil))) (pda_cons (pd_call c_due hG (hr.mono (by omega)) rfl (pda_cons (pd 3) (pda_cons (pd 5) pda_nil))) pda_nil)) (by rfl)) (pss_dcons (psd_set (i := 8) sc_right.nd rfl (by first | exact .inl rfl | exact .inr rfl) (pd_lstV (pda_cons (pd_call c_in_turn hG (hr.mono (by omega)) rfl (pda_cons (pd 2) (pda_cons (pd 4) pda_nil))) (pda_cons (pd_call c_in_turn hG (hr.mono (by omega)) rfl (pda_cons (pd 2) (pda_cons (pd 5) pda_nil))) (pda_cons (pd_callK (ks := ["points", "point"]) c_in_turn hG (hr.mono (by omega)) (by rfl) [1, 0] (fun _ _ _ _ _ _ ws hl => match ws, hl with | [_, _], _ => rfl) (pdk_cons (pd 4) (pdk_cons (pd 2) pdk_nil)) (hlen := fun e s Q h => by simpa [dCons, dNil] using h)) pda_nil))))) (pss_done (psd_ret (pd_cmp (o_eq hr.units) (pd_callB (c_reprX hG (u65 hr)) rfl T.n_repr bt_repr (pda_cons (pd 8) pda_nil)) (pd_callB (c_reprX hG (u65 hr)) rfl T.n_repr bt_repr (pda_cons (pd_lstV (pda_cons (pd 6) (pda_cons (pd 7) (pda_cons (pd 6) pda_nil)))) pda_nil)) (nomark _)))))))))))
theorem t_law {k : Nat} (hk : 11 ≤ k) (T : Tx K mg) (c_right : Can P w K mg base 11 "_law_right" s_right ["_law_spring_here"] sp_right) (c_spring : Can P w K mg base 1 "_law_spring" s_spring ["_law_script", "_law_turn"] sp_spring) (f : Addr) (cd : Value) (A : Around) (outer : List Env) (s : Shared) (H : Hp) (E : XK) (hG : A.guards = some []) (hr : Room k (A.deeper (envOfC "law" (defScope s_law) s.heap.objs.size f cd))) :
    PDSs (cxD P w K mg base N_law "law" (defScope s_law) f cd A outer s H E) (defBody s_law) b_law :=
  (pss_done (psd_ret (pd_callB (c_all rfl) rfl T.n_all bt_all (pda_cons (pd_lcM hm_val rfl sc_law.nd (pdi_rng1 rfl T.n_range (pda_cons (pd_callB (c_max rfl) rfl T.n_max bt_max (pda_cons pd_int (pda_cons (pd_callB (c_min rfl) rfl T.n_min bt_min (pda_cons (pd_callB c_len rfl T.n_len bt_len (pda_cons (pd 0) pda_nil)) (pda_cons pd_int pda_nil))) pda_nil))) pda_nil)) (blkOk_by (N := N_law) (sc := defScope s_law) (by decide +kernel)) (fun _ _ _ _ _ => pg_name (i := 1) sc_law.nd rfl (Or.inl rfl)) (fun _ _ _ _ _ => pdts_nil) (fun _ _ _ _ _ => (pd_call c_right hG (hr.mono (by omega)) rfl (pda_cons (pd_call c_spring hG (hr.mono (by omega)) rfl (pda_cons (pd 0) (pda_cons (pd 1) pda_nil))) pda_nil)))) pda_nil))))
end
end K04
namespace K04
open PySem PySem.Spec PyProof.Rows L2 DL LB
section
variable {P : Program} {w : World} {K : PySem.W.Frag} {mg : Str → Option Value} {base : Heap}
theorem c_is_whole (T : Tx K mg) : Can P w K mg base 1 "is_whole" s_is_whole ["value"] sp_is_whole :=
  can_of T.h_is_whole sc_is_whole (fun ds s Q h => by
    first
    | (obtain ⟨_, rfl, _⟩ := h; rfl)
    | (obtain ⟨_, _, rfl, _⟩ := h; rfl)
    | (obtain ⟨_, _, _, rfl, _⟩ := h; rfl)
    | (obtain ⟨_, _, _, _, rfl, _⟩ := h; rfl)
    | (obtain ⟨_, _, _, _, _, rfl, _⟩ := h; rfl)
    | (obtain ⟨_, _, _, _, _, _, rfl, _⟩ := h; rfl)
    | (obtain ⟨_, _, _, _, _, _, _, rfl, _⟩ := h; rfl)
    | (obtain ⟨_, _, _, _, _, _, _, _, rfl, _⟩ := h; rfl)
    | (obtain ⟨_, _, _, _, _, _, _, _, _, rfl, _⟩ := h; rfl)
    | (unfold sp_is_whole at h; split at h <;> first | rfl | exact h.elim)) (fun _ _ _ _ _ _ us hl => match us, hl with | [_], _ => rfl) (fun f cd A outer s H E hG hr => t_is_whole (k := 0) (by omega) T  f cd A outer s H E hG hr) r_is_whole
theorem c_is_row (T : Tx K mg) : Can P w K mg base 1 "is_row" s_is_row ["value", "low", "high"] sp_is_row :=
  can_of T.h_is_row sc_is_row (fun ds s Q h => by
    first
    | (obtain ⟨_, rfl, _⟩ := h; rfl)
    | (obtain ⟨_, _, rfl, _⟩ := h; rfl)
    | (obtain ⟨_, _, _, rfl, _⟩ := h; rfl)
    | (obtain ⟨_, _, _, _, rfl, _⟩ := h; rfl)
    | (obtain ⟨_, _, _, _, _, rfl, _⟩ := h; rfl)
    | (obtain ⟨_, _, _, _, _, _, rfl, _⟩ := h; rfl)
    | (obtain ⟨_, _, _, _, _, _, _, rfl, _⟩ := h; rfl)
    | (obtain ⟨_, _, _, _, _, _, _, _, rfl, _⟩ := h; rfl)
    | (obtain ⟨_, _, _, _, _, _, _, _, _, rfl, _⟩ := h; rfl)
    | (unfold sp_is_row at h; split at h <;> first | rfl | exact h.elim)) (fun _ _ _ _ _ _ us hl => match us, hl with | [_, _, _], _ => rfl) (fun f cd A outer s H E hG hr => t_is_row (k := 0) (by omega) T  f cd A outer s H E hG hr) r_is_row
theorem c_is_fraction (T : Tx K mg) : Can P w K mg base 2 "is_fraction" s_is_fraction ["value"] sp_is_fraction :=
  can_of T.h_is_fraction sc_is_fraction (fun ds s Q h => by
    first
    | (obtain ⟨_, rfl, _⟩ := h; rfl)
    | (obtain ⟨_, _, rfl, _⟩ := h; rfl)
    | (obtain ⟨_, _, _, rfl, _⟩ := h; rfl)
    | (obtain ⟨_, _, _, _, rfl, _⟩ := h; rfl)
    | (obtain ⟨_, _, _, _, _, rfl, _⟩ := h; rfl)
    | (obtain ⟨_, _, _, _, _, _, rfl, _⟩ := h; rfl)
    | (obtain ⟨_, _, _, _, _, _, _, rfl, _⟩ := h; rfl)
    | (obtain ⟨_, _, _, _, _, _, _, _, rfl, _⟩ := h; rfl)
    | (obtain ⟨_, _, _, _, _, _, _, _, _, rfl, _⟩ := h; rfl)
    | (unfold sp_is_fraction at h; split at h <;> first | rfl | exact h.elim)) (fun _ _ _ _ _ _ us hl => match us, hl with | [_], _ => rfl) (fun f cd A outer s H E hG hr => t_is_fraction (k := 1) (by omega) T (c_is_row T) (c_is_whole T) f cd A outer s H E hG hr) r_is_fraction
theorem c_is_place (T : Tx K mg) : Can P w K mg base 3 "is_place" s_is_place ["value"] sp_is_place :=
  can_of T.h_is_place sc_is_place (fun ds s Q h => by
    first
    | (obtain ⟨_, rfl, _⟩ := h; rfl)
    | (obtain ⟨_, _, rfl, _⟩ := h; rfl)
    | (obtain ⟨_, _, _, rfl, _⟩ := h; rfl)
    | (obtain ⟨_, _, _, _, rfl, _⟩ := h; rfl)
    | (obtain ⟨_, _, _, _, _, rfl, _⟩ := h; rfl)
    | (obtain ⟨_, _, _, _, _, _, rfl, _⟩ := h; rfl)
    | (obtain ⟨_, _, _, _, _, _, _, rfl, _⟩ := h; rfl)
    | (obtain ⟨_, _, _, _, _, _, _, _, rfl, _⟩ := h; rfl)
    | (obtain ⟨_, _, _, _, _, _, _, _, _, rfl, _⟩ := h; rfl)
    | (unfold sp_is_place at h; split at h <;> first | rfl | exact h.elim)) (fun _ _ _ _ _ _ us hl => match us, hl with | [_], _ => rfl) (fun f cd A outer s H E hG hr => t_is_place (k := 2) (by omega) T (c_is_row T) (c_is_fraction T) f cd A outer s H E hG hr) r_is_place
theorem c_check_point (T : Tx K mg) : Can P w K mg base 4 "check_point" s_check_point ["value"] sp_check_point :=
  can_of T.h_check_point sc_check_point (fun ds s Q h => by
    first
    | (obtain ⟨_, rfl, _⟩ := h; rfl)
    | (obtain ⟨_, _, rfl, _⟩ := h; rfl)
    | (obtain ⟨_, _, _, rfl, _⟩ := h; rfl)
    | (obtain ⟨_, _, _, _, rfl, _⟩ := h; rfl)
    | (obtain ⟨_, _, _, _, _, rfl, _⟩ := h; rfl)
    | (obtain ⟨_, _, _, _, _, _, rfl, _⟩ := h; rfl)
    | (obtain ⟨_, _, _, _, _, _, _, rfl, _⟩ := h; rfl)
    | (obtain ⟨_, _, _, _, _, _, _, _, rfl, _⟩ := h; rfl)
    | (obtain ⟨_, _, _, _, _, _, _, _, _, rfl, _⟩ := h; rfl)
    | (unfold sp_check_point at h; split at h <;> first | rfl | exact h.elim)) (fun _ _ _ _ _ _ us hl => match us, hl with | [_], _ => rfl) (fun f cd A outer s H E hG hr => t_check_point (k := 3) (by omega) T (c_is_place T) f cd A outer s H E hG hr) r_check_point
theorem c_check_points (T : Tx K mg) : Can P w K mg base 4 "check_points" s_check_points ["value"] sp_check_points :=
  can_of T.h_check_points sc_check_points (fun ds s Q h => by
    first
    | (obtain ⟨_, rfl, _⟩ := h; rfl)
    | (obtain ⟨_, _, rfl, _⟩ := h; rfl)
    | (obtain ⟨_, _, _, rfl, _⟩ := h; rfl)
    | (obtain ⟨_, _, _, _, rfl, _⟩ := h; rfl)
    | (obtain ⟨_, _, _, _, _, rfl, _⟩ := h; rfl)
    | (obtain ⟨_, _, _, _, _, _, rfl, _⟩ := h; rfl)
    | (obtain ⟨_, _, _, _, _, _, _, rfl, _⟩ := h; rfl)
    | (obtain ⟨_, _, _, _, _, _, _, _, rfl, _⟩ := h; rfl)
    | (obtain ⟨_, _, _, _, _, _, _, _, _, rfl, _⟩ := h; rfl)
    | (unfold sp_check_points at h; split at h <;> first | rfl | exact h.elim)) (fun _ _ _ _ _ _ us hl => match us, hl with | [_], _ => rfl) (fun f cd A outer s H E hG hr => t_check_points (k := 3) (by omega) T (c_is_row T) (c_is_place T) f cd A outer s H E hG hr) r_check_points
theorem c_merged (T : Tx K mg) {F : Addr} {fdF : FuncData} (FF : FnD P w K mg base 2 F fdF ["first", "second"] sp_is_turned_less) (gF : mg "is_turned_less" = some (.ref F)) (hkF : PySem.W.keepIn K (.ref F) = true) (hbF : Binds K fdF ["first", "second"] []) : Can P w K mg base 3 "merged" s_merged ["left", "right", "is_below"] (sp_merged F) :=
  can_ofS T.h_merged sc_merged (fun ds s Q h => by
    first
    | (obtain ⟨_, rfl, _⟩ := h; rfl)
    | (obtain ⟨_, _, rfl, _⟩ := h; rfl)
    | (obtain ⟨_, _, _, rfl, _⟩ := h; rfl)
    | (obtain ⟨_, _, _, _, rfl, _⟩ := h; rfl)
    | (obtain ⟨_, _, _, _, _, rfl, _⟩ := h; rfl)
    | (obtain ⟨_, _, _, _, _, _, rfl, _⟩ := h; rfl)
    | (obtain ⟨_, _, _, _, _, _, _, rfl, _⟩ := h; rfl)
    | (obtain ⟨_, _, _, _, _, _, _, _, rfl, _⟩ := h; rfl)
    | (obtain ⟨_, _, _, _, _, _, _, _, _, rfl, _⟩ := h; rfl)
    | (unfold sp_merged at h; split at h <;> first | rfl | exact h.elim)) (fun _ _ _ _ _ _ us hl => match us, hl with | [_, _, _], _ => rfl) (fun f cd A outer s H E hG hr => t_merged (k := 2) (by omega) T (by omega) FF hkF hbF f cd A outer s H E hG hr) (r_merged F)
theorem can_none {x : Str} {st : Stmt} {ps : List Str} {k : Nat} (F : Has K mg x st)
    (bind : ∀ (kV doc pm : Value) (an : Option Addr) (cdv ct : Value) (us : List Value), us.length = ps.length → bindArgs (PySem.W.fnOf x x (defArgs st) (defBody st) (defScope st) .none kV doc pm an cdv ct) ⟨us, []⟩ = pure (ps.zip us)) : Can P w K mg base k x st ps (fun _ _ _ => False) := by
  obtain ⟨f, fd, hm, F⟩ := F.ex
  exact ⟨f, fd, ⟨fun vs H Q E ⟨_, _, _, _, _, _, h, _⟩ => h.elim, fun A outer s H args us vs Q E _ _ _ _ _ ⟨_, _, _, _, _, _, h, _⟩ => h.elim⟩, hm, F, F.binds bind⟩
theorem c_sorted_by0 (T : Tx K mg) {F : Addr} {fdF : FuncData} (FF : FnD P w K mg base 2 F fdF ["first", "second"] sp_is_turned_less) (gF : mg "is_turned_less" = some (.ref F)) (hkF : PySem.W.keepIn K (.ref F) = true) (hbF : Binds K fdF ["first", "second"] []) : Can P w K mg base 4 "sorted_by" s_sorted_by ["rows", "is_below"] (sp_sorted_byK F 0) :=
  can_of T.h_sorted_by sc_sorted_by (fun ds s Q h => by
    first
    | (obtain ⟨_, rfl, _⟩ := h; rfl)
    | (obtain ⟨_, _, rfl, _⟩ := h; rfl)
    | (obtain ⟨_, _, _, rfl, _⟩ := h; rfl)
    | (obtain ⟨_, _, _, _, rfl, _⟩ := h; rfl)
    | (obtain ⟨_, _, _, _, _, rfl, _⟩ := h; rfl)
    | (obtain ⟨_, _, _, _, _, _, rfl, _⟩ := h; rfl)
    | (obtain ⟨_, _, _, _, _, _, _, rfl, _⟩ := h; rfl)
    | (obtain ⟨_, _, _, _, _, _, _, _, rfl, _⟩ := h; rfl)
    | (obtain ⟨_, _, _, _, _, _, _, _, _, rfl, _⟩ := h; rfl)
    | (unfold sp_sorted_byK at h; split at h <;> first | rfl | exact h.elim)) (fun _ _ _ _ _ _ us hl => match us, hl with | [_, _], _ => rfl) (fun f cd A outer s H E hG hr => t_sorted_by (k := 3) (F := F) (by omega) T (c_merged T FF gF hkF hbF) (can_none T.h_sorted_by (fun _ _ _ _ _ _ us hl => match us, hl with | [_, _], _ => rfl)) f cd A outer s H E hG hr) (r_sorted_by F 0 _ (fun m e => by cases e))
theorem c_sorted_by1 (T : Tx K mg) {F : Addr} {fdF : FuncData} (FF : FnD P w K mg base 2 F fdF ["first", "second"] sp_is_turned_less) (gF : mg "is_turned_less" = some (.ref F)) (hkF : PySem.W.keepIn K (.ref F) = true) (hbF : Binds K fdF ["first", "second"] []) : Can P w K mg base 5 "sorted_by" s_sorted_by ["rows", "is_below"] (sp_sorted_byK F 1) :=
  can_of T.h_sorted_by sc_sorted_by (fun ds s Q h => by
    first
    | (obtain ⟨_, rfl, _⟩ := h; rfl)
    | (obtain ⟨_, _, rfl, _⟩ := h; rfl)
    | (obtain ⟨_, _, _, rfl, _⟩ := h; rfl)
    | (obtain ⟨_, _, _, _, rfl, _⟩ := h; rfl)
    | (obtain ⟨_, _, _, _, _, rfl, _⟩ := h; rfl)
    | (obtain ⟨_, _, _, _, _, _, rfl, _⟩ := h; rfl)
    | (obtain ⟨_, _, _, _, _, _, _, rfl, _⟩ := h; rfl)
    | (obtain ⟨_, _, _, _, _, _, _, _, rfl, _⟩ := h; rfl)
    | (obtain ⟨_, _, _, _, _, _, _, _, _, rfl, _⟩ := h; rfl)
    | (unfold sp_sorted_byK at h; split at h <;> first | rfl | exact h.elim)) (fun _ _ _ _ _ _ us hl => match us, hl with | [_, _], _ => rfl) (fun f cd A outer s H E hG hr => t_sorted_by (k := 4) (F := F) (by omega) T (c_merged T FF gF hkF hbF) (c_sorted_by0 T FF gF hkF hbF) f cd A outer s H E hG hr) (r_sorted_by F 1 _ (fun m e ds st Q h => by
    cases e
    exact h))
theorem c_sorted_by2 (T : Tx K mg) {F : Addr} {fdF : FuncData} (FF : FnD P w K mg base 2 F fdF ["first", "second"] sp_is_turned_less) (gF : mg "is_turned_less" = some (.ref F)) (hkF : PySem.W.keepIn K (.ref F) = true) (hbF : Binds K fdF ["first", "second"] []) : Can P w K mg base 6 "sorted_by" s_sorted_by ["rows", "is_below"] (sp_sorted_byK F 2) :=
  can_of T.h_sorted_by sc_sorted_by (fun ds s Q h => by
    first
    | (obtain ⟨_, rfl, _⟩ := h; rfl)
    | (obtain ⟨_, _, rfl, _⟩ := h; rfl)
    | (obtain ⟨_, _, _, rfl, _⟩ := h; rfl)
    | (obtain ⟨_, _, _, _, rfl, _⟩ := h; rfl)
    | (obtain ⟨_, _, _, _, _, rfl, _⟩ := h; rfl)
    | (obtain ⟨_, _, _, _, _, _, rfl, _⟩ := h; rfl)
    | (obtain ⟨_, _, _, _, _, _, _, rfl, _⟩ := h; rfl)
    | (obtain ⟨_, _, _, _, _, _, _, _, rfl, _⟩ := h; rfl)
    | (obtain ⟨_, _, _, _, _, _, _, _, _, rfl, _⟩ := h; rfl)
    | (unfold sp_sorted_byK at h; split at h <;> first | rfl | exact h.elim)) (fun _ _ _ _ _ _ us hl => match us, hl with | [_, _], _ => rfl) (fun f cd A outer s H E hG hr => t_sorted_by (k := 5) (F := F) (by omega) T (c_merged T FF gF hkF hbF) (c_sorted_by1 T FF gF hkF hbF) f cd A outer s H E hG hr) (r_sorted_by F 2 _ (fun m e ds st Q h => by
    cases e
    exact h))
theorem c_sorted_by3 (T : Tx K mg) {F : Addr} {fdF : FuncData} (FF : FnD P w K mg base 2 F fdF ["first", "second"] sp_is_turned_less) (gF : mg "is_turned_less" = some (.ref F)) (hkF : PySem.W.keepIn K (.ref F) = true) (hbF : Binds K fdF ["first", "second"] []) : Can P w K mg base 7 "sorted_by" s_sorted_by ["rows", "is_below"] (sp_sorted_byK F 3) :=
  can_of T.h_sorted_by sc_sorted_by (fun ds s Q h => by
    first
    | (obtain ⟨_, rfl, _⟩ := h; rfl)
    | (obtain ⟨_, _, rfl, _⟩ := h; rfl)
    | (obtain ⟨_, _, _, rfl, _⟩ := h; rfl)
    | (obtain ⟨_, _, _, _, rfl, _⟩ := h; rfl)
    | (obtain ⟨_, _, _, _, _, rfl, _⟩ := h; rfl)
    | (obtain ⟨_, _, _, _, _, _, rfl, _⟩ := h; rfl)
    | (obtain ⟨_, _, _, _, _, _, _, rfl, _⟩ := h; rfl)
    | (obtain ⟨_, _, _, _, _, _, _, _, rfl, _⟩ := h; rfl)
    | (obtain ⟨_, _, _, _, _, _, _, _, _, rfl, _⟩ := h; rfl)
    | (unfold sp_sorted_byK at h; split at h <;> first | rfl | exact h.elim)) (fun _ _ _ _ _ _ us hl => match us, hl with | [_, _], _ => rfl) (fun f cd A outer s H E hG hr => t_sorted_by (k := 6) (F := F) (by omega) T (c_merged T FF gF hkF hbF) (c_sorted_by2 T FF gF hkF hbF) f cd A outer s H E hG hr) (r_sorted_by F 3 _ (fun m e ds st Q h => by
    cases e
    exact h))
theorem c_sorted_by4 (T : Tx K mg) {F : Addr} {fdF : FuncData} (FF : FnD P w K mg base 2 F fdF ["first", "second"] sp_is_turned_less) (gF : mg "is_turned_less" = some (.ref F)) (hkF : PySem.W.keepIn K (.ref F) = true) (hbF : Binds K fdF ["first", "second"] []) : Can P w K mg base 8 "sorted_by" s_sorted_by ["rows", "is_below"] (sp_sorted_byK F 4) :=
  can_of T.h_sorted_by sc_sorted_by (fun ds s Q h => by
    first
    | (obtain ⟨_, rfl, _⟩ := h; rfl)
    | (obtain ⟨_, _, rfl, _⟩ := h; rfl)
    | (obtain ⟨_, _, _, rfl, _⟩ := h; rfl)
    | (obtain ⟨_, _, _, _, rfl, _⟩ := h; rfl)
    | (obtain ⟨_, _, _, _, _, rfl, _⟩ := h; rfl)
    | (obtain ⟨_, _, _, _, _, _, rfl, _⟩ := h; rfl)
    | (obtain ⟨_, _, _, _, _, _, _, rfl, _⟩ := h; rfl)
    | (obtain ⟨_, _, _, _, _, _, _, _, rfl, _⟩ := h; rfl)
    | (obtain ⟨_, _, _, _, _, _, _, _, _, rfl, _⟩ := h; rfl)
    | (unfold sp_sorted_byK at h; split at h <;> first | rfl | exact h.elim)) (fun _ _ _ _ _ _ us hl => match us, hl with | [_, _], _ => rfl) (fun f cd A outer s H E hG hr => t_sorted_by (k := 7) (F := F) (by omega) T (c_merged T FF gF hkF hbF) (c_sorted_by3 T FF gF hkF hbF) f cd A outer s H E hG hr) (r_sorted_by F 4 _ (fun m e ds st Q h => by
    cases e
    exact h))
theorem c_sorted_by5 (T : Tx K mg) {F : Addr} {fdF : FuncData} (FF : FnD P w K mg base 2 F fdF ["first", "second"] sp_is_turned_less) (gF : mg "is_turned_less" = some (.ref F)) (hkF : PySem.W.keepIn K (.ref F) = true) (hbF : Binds K fdF ["first", "second"] []) : Can P w K mg base 9 "sorted_by" s_sorted_by ["rows", "is_below"] (sp_sorted_byK F 5) :=
  can_of T.h_sorted_by sc_sorted_by (fun ds s Q h => by
    first
    | (obtain ⟨_, rfl, _⟩ := h; rfl)
    | (obtain ⟨_, _, rfl, _⟩ := h; rfl)
    | (obtain ⟨_, _, _, rfl, _⟩ := h; rfl)
    | (obtain ⟨_, _, _, _, rfl, _⟩ := h; rfl)
    | (obtain ⟨_, _, _, _, _, rfl, _⟩ := h; rfl)
    | (obtain ⟨_, _, _, _, _, _, rfl, _⟩ := h; rfl)
    | (obtain ⟨_, _, _, _, _, _, _, rfl, _⟩ := h; rfl)
    | (obtain ⟨_, _, _, _, _, _, _, _, rfl, _⟩ := h; rfl)
    | (obtain ⟨_, _, _, _, _, _, _, _, _, rfl, _⟩ := h; rfl)
    | (unfold sp_sorted_byK at h; split at h <;> first | rfl | exact h.elim)) (fun _ _ _ _ _ _ us hl => match us, hl with | [_, _], _ => rfl) (fun f cd A outer s H E hG hr => t_sorted_by (k := 8) (F := F) (by omega) T (c_merged T FF gF hkF hbF) (c_sorted_by4 T FF gF hkF hbF) f cd A outer s H E hG hr) (r_sorted_by F 5 _ (fun m e ds st Q h => by
    cases e
    exact h))
theorem c_sorted_by (T : Tx K mg) {F : Addr} {fdF : FuncData} (FF : FnD P w K mg base 2 F fdF ["first", "second"] sp_is_turned_less) (gF : mg "is_turned_less" = some (.ref F)) (hkF : PySem.W.keepIn K (.ref F) = true) (hbF : Binds K fdF ["first", "second"] []) : Can P w K mg base 9 "sorted_by" s_sorted_by ["rows", "is_below"] (sp_sorted_by F) := c_sorted_by5 T FF gF hkF hbF
theorem c_scaled (T : Tx K mg) : Can P w K mg base 1 "scaled" s_scaled ["point"] sp_scaled :=
  can_of T.h_scaled sc_scaled (fun ds s Q h => by
    first
    | (obtain ⟨_, rfl, _⟩ := h; rfl)
    | (obtain ⟨_, _, rfl, _⟩ := h; rfl)
    | (obtain ⟨_, _, _, rfl, _⟩ := h; rfl)
    | (obtain ⟨_, _, _, _, rfl, _⟩ := h; rfl)
    | (obtain ⟨_, _, _, _, _, rfl, _⟩ := h; rfl)
    | (obtain ⟨_, _, _, _, _, _, rfl, _⟩ := h; rfl)
    | (obtain ⟨_, _, _, _, _, _, _, rfl, _⟩ := h; rfl)
    | (obtain ⟨_, _, _, _, _, _, _, _, rfl, _⟩ := h; rfl)
    | (obtain ⟨_, _, _, _, _, _, _, _, _, rfl, _⟩ := h; rfl)
    | (unfold sp_scaled at h; split at h <;> first | rfl | exact h.elim)) (fun _ _ _ _ _ _ us hl => match us, hl with | [_], _ => rfl) (fun f cd A outer s H E hG hr => t_scaled (k := 0) (by omega) T  f cd A outer s H E hG hr) r_scaled
theorem c_heading (T : Tx K mg) : Can P w K mg base 1 "heading" s_heading ["start", "goal"] sp_heading :=
  can_of T.h_heading sc_heading (fun ds s Q h => by
    first
    | (obtain ⟨_, rfl, _⟩ := h; rfl)
    | (obtain ⟨_, _, rfl, _⟩ := h; rfl)
    | (obtain ⟨_, _, _, rfl, _⟩ := h; rfl)
    | (obtain ⟨_, _, _, _, rfl, _⟩ := h; rfl)
    | (obtain ⟨_, _, _, _, _, rfl, _⟩ := h; rfl)
    | (obtain ⟨_, _, _, _, _, _, rfl, _⟩ := h; rfl)
    | (obtain ⟨_, _, _, _, _, _, _, rfl, _⟩ := h; rfl)
    | (obtain ⟨_, _, _, _, _, _, _, _, rfl, _⟩ := h; rfl)
    | (obtain ⟨_, _, _, _, _, _, _, _, _, rfl, _⟩ := h; rfl)
    | (unfold sp_heading at h; split at h <;> first | rfl | exact h.elim)) (fun _ _ _ _ _ _ us hl => match us, hl with | [_, _], _ => rfl) (fun f cd A outer s H E hG hr => t_heading (k := 0) (by omega) T  f cd A outer s H E hG hr) r_heading
theorem c_is_lower_half (T : Tx K mg) : Can P w K mg base 1 "is_lower_half" s_is_lower_half ["direction"] sp_is_lower_half :=
  can_of T.h_is_lower_half sc_is_lower_half (fun ds s Q h => by
    first
    | (obtain ⟨_, rfl, _⟩ := h; rfl)
    | (obtain ⟨_, _, rfl, _⟩ := h; rfl)
    | (obtain ⟨_, _, _, rfl, _⟩ := h; rfl)
    | (obtain ⟨_, _, _, _, rfl, _⟩ := h; rfl)
    | (obtain ⟨_, _, _, _, _, rfl, _⟩ := h; rfl)
    | (obtain ⟨_, _, _, _, _, _, rfl, _⟩ := h; rfl)
    | (obtain ⟨_, _, _, _, _, _, _, rfl, _⟩ := h; rfl)
    | (obtain ⟨_, _, _, _, _, _, _, _, rfl, _⟩ := h; rfl)
    | (obtain ⟨_, _, _, _, _, _, _, _, _, rfl, _⟩ := h; rfl)
    | (unfold sp_is_lower_half at h; split at h <;> first | rfl | exact h.elim)) (fun _ _ _ _ _ _ us hl => match us, hl with | [_], _ => rfl) (fun f cd A outer s H E hG hr => t_is_lower_half (k := 0) (by omega) T  f cd A outer s H E hG hr) r_is_lower_half
theorem c_is_turned_less (T : Tx K mg) : Can P w K mg base 2 "is_turned_less" s_is_turned_less ["first", "second"] sp_is_turned_less :=
  can_of T.h_is_turned_less sc_is_turned_less (fun ds s Q h => by
    first
    | (obtain ⟨_, rfl, _⟩ := h; rfl)
    | (obtain ⟨_, _, rfl, _⟩ := h; rfl)
    | (obtain ⟨_, _, _, rfl, _⟩ := h; rfl)
    | (obtain ⟨_, _, _, _, rfl, _⟩ := h; rfl)
    | (obtain ⟨_, _, _, _, _, rfl, _⟩ := h; rfl)
    | (obtain ⟨_, _, _, _, _, _, rfl, _⟩ := h; rfl)
    | (obtain ⟨_, _, _, _, _, _, _, rfl, _⟩ := h; rfl)
    | (obtain ⟨_, _, _, _, _, _, _, _, rfl, _⟩ := h; rfl)
    | (obtain ⟨_, _, _, _, _, _, _, _, _, rfl, _⟩ := h; rfl)
    | (unfold sp_is_turned_less at h; split at h <;> first | rfl | exact h.elim)) (fun _ _ _ _ _ _ us hl => match us, hl with | [_, _], _ => rfl) (fun f cd A outer s H E hG hr => t_is_turned_less (k := 1) (by omega) T (c_is_lower_half T) f cd A outer s H E hG hr) r_is_turned_less
theorem c_in_turn (T : Tx K mg) {F : Addr} {fdF : FuncData} (FF : FnD P w K mg base 2 F fdF ["first", "second"] sp_is_turned_less) (gF : mg "is_turned_less" = some (.ref F)) (hkF : PySem.W.keepIn K (.ref F) = true) (hbF : Binds K fdF ["first", "second"] []) : Can P w K mg base 10 "in_turn" s_in_turn ["point", "points"] sp_in_turn :=
  can_of T.h_in_turn sc_in_turn (fun ds s Q h => by
    first
    | (obtain ⟨_, rfl, _⟩ := h; rfl)
    | (obtain ⟨_, _, rfl, _⟩ := h; rfl)
    | (obtain ⟨_, _, _, rfl, _⟩ := h; rfl)
    | (obtain ⟨_, _, _, _, rfl, _⟩ := h; rfl)
    | (obtain ⟨_, _, _, _, _, rfl, _⟩ := h; rfl)
    | (obtain ⟨_, _, _, _, _, _, rfl, _⟩ := h; rfl)
    | (obtain ⟨_, _, _, _, _, _, _, rfl, _⟩ := h; rfl)
    | (obtain ⟨_, _, _, _, _, _, _, _, rfl, _⟩ := h; rfl)
    | (obtain ⟨_, _, _, _, _, _, _, _, _, rfl, _⟩ := h; rfl)
    | (unfold sp_in_turn at h; split at h <;> first | rfl | exact h.elim)) (fun _ _ _ _ _ _ us hl => match us, hl with | [_, _], _ => rfl) (fun f cd A outer s H E hG hr => t_in_turn (k := 9) (by omega) T (c_check_point T) (c_check_points T) (c_scaled T) (c_heading T) (c_sorted_by T FF gF hkF hbF) gF f cd A outer s H E hG hr) (r_in_turn F)
theorem c_spring (T : Tx K mg) : Can P w K mg base 1 "_law_spring" s_spring ["_law_script", "_law_turn"] sp_spring :=
  can_of T.h_spring sc_spring (fun ds s Q h => by
    first
    | (obtain ⟨_, rfl, _⟩ := h; rfl)
    | (obtain ⟨_, _, rfl, _⟩ := h; rfl)
    | (obtain ⟨_, _, _, rfl, _⟩ := h; rfl)
    | (obtain ⟨_, _, _, _, rfl, _⟩ := h; rfl)
    | (obtain ⟨_, _, _, _, _, rfl, _⟩ := h; rfl)
    | (obtain ⟨_, _, _, _, _, _, rfl, _⟩ := h; rfl)
    | (obtain ⟨_, _, _, _, _, _, _, rfl, _⟩ := h; rfl)
    | (obtain ⟨_, _, _, _, _, _, _, _, rfl, _⟩ := h; rfl)
    | (obtain ⟨_, _, _, _, _, _, _, _, _, rfl, _⟩ := h; rfl)
    | (unfold sp_spring at h; split at h <;> first | rfl | exact h.elim)) (fun _ _ _ _ _ _ us hl => match us, hl with | [_, _], _ => rfl) (fun f cd A outer s H E hG hr => t_spring (k := 0) (by omega) T  f cd A outer s H E hG hr) (r_spring 744071 (by decide) (by decide))
theorem c_draw (T : Tx K mg) : Can P w K mg base 1 "_law_draw" s_draw ["_law_spring_here", "_law_many"] sp_draw :=
  can_of T.h_draw sc_draw (fun ds s Q h => by
    first
    | (obtain ⟨_, rfl, _⟩ := h; rfl)
    | (obtain ⟨_, _, rfl, _⟩ := h; rfl)
    | (obtain ⟨_, _, _, rfl, _⟩ := h; rfl)
    | (obtain ⟨_, _, _, _, rfl, _⟩ := h; rfl)
    | (obtain ⟨_, _, _, _, _, rfl, _⟩ := h; rfl)
    | (obtain ⟨_, _, _, _, _, _, rfl, _⟩ := h; rfl)
    | (obtain ⟨_, _, _, _, _, _, _, rfl, _⟩ := h; rfl)
    | (obtain ⟨_, _, _, _, _, _, _, _, rfl, _⟩ := h; rfl)
    | (obtain ⟨_, _, _, _, _, _, _, _, _, rfl, _⟩ := h; rfl)
    | (unfold sp_draw at h; split at h <;> first | rfl | exact h.elim)) (fun _ _ _ _ _ _ us hl => match us, hl with | [_, _], _ => rfl) (fun f cd A outer s H E hG hr => t_draw (k := 0) (by omega) T  f cd A outer s H E hG hr) r_draw
theorem c_one_of (T : Tx K mg) : Can P w K mg base 2 "_law_one_of" s_one_of ["_law_spring_here", "_law_some"] sp_one_of :=
  can_of T.h_one_of sc_one_of (fun ds s Q h => by
    first
    | (obtain ⟨_, rfl, _⟩ := h; rfl)
    | (obtain ⟨_, _, rfl, _⟩ := h; rfl)
    | (obtain ⟨_, _, _, rfl, _⟩ := h; rfl)
    | (obtain ⟨_, _, _, _, rfl, _⟩ := h; rfl)
    | (obtain ⟨_, _, _, _, _, rfl, _⟩ := h; rfl)
    | (obtain ⟨_, _, _, _, _, _, rfl, _⟩ := h; rfl)
    | (obtain ⟨_, _, _, _, _, _, _, rfl, _⟩ := h; rfl)
    | (obtain ⟨_, _, _, _, _, _, _, _, rfl, _⟩ := h; rfl)
    | (obtain ⟨_, _, _, _, _, _, _, _, _, rfl, _⟩ := h; rfl)
    | (unfold sp_one_of at h; split at h <;> first | rfl | exact h.elim)) (fun _ _ _ _ _ _ us hl => match us, hl with | [_, _], _ => rfl) (fun f cd A outer s H E hG hr => t_one_of (k := 1) (by omega) T (c_draw T) f cd A outer s H E hG hr) r_one_of
theorem c_divisor (T : Tx K mg) : Can P w K mg base 1 "_law_divisor" s_divisor ["_law_one", "_law_two"] sp_divisor :=
  can_of T.h_divisor sc_divisor (fun ds s Q h => by
    first
    | (obtain ⟨_, rfl, _⟩ := h; rfl)
    | (obtain ⟨_, _, rfl, _⟩ := h; rfl)
    | (obtain ⟨_, _, _, rfl, _⟩ := h; rfl)
    | (obtain ⟨_, _, _, _, rfl, _⟩ := h; rfl)
    | (obtain ⟨_, _, _, _, _, rfl, _⟩ := h; rfl)
    | (obtain ⟨_, _, _, _, _, _, rfl, _⟩ := h; rfl)
    | (obtain ⟨_, _, _, _, _, _, _, rfl, _⟩ := h; rfl)
    | (obtain ⟨_, _, _, _, _, _, _, _, rfl, _⟩ := h; rfl)
    | (obtain ⟨_, _, _, _, _, _, _, _, _, rfl, _⟩ := h; rfl)
    | (unfold sp_divisor at h; split at h <;> first | rfl | exact h.elim)) (fun _ _ _ _ _ _ us hl => match us, hl with | [_, _], _ => rfl) (fun f cd A outer s H E hG hr => t_divisor (k := 0) (by omega) T  f cd A outer s H E hG hr) r_divisor
theorem c_part (T : Tx K mg) : Can P w K mg base 2 "_law_part" s_part ["_law_top", "_law_base"] sp_part :=
  can_of T.h_part sc_part (fun ds s Q h => by
    first
    | (obtain ⟨_, rfl, _⟩ := h; rfl)
    | (obtain ⟨_, _, rfl, _⟩ := h; rfl)
    | (obtain ⟨_, _, _, rfl, _⟩ := h; rfl)
    | (obtain ⟨_, _, _, _, rfl, _⟩ := h; rfl)
    | (obtain ⟨_, _, _, _, _, rfl, _⟩ := h; rfl)
    | (obtain ⟨_, _, _, _, _, _, rfl, _⟩ := h; rfl)
    | (obtain ⟨_, _, _, _, _, _, _, rfl, _⟩ := h; rfl)
    | (obtain ⟨_, _, _, _, _, _, _, _, rfl, _⟩ := h; rfl)
    | (obtain ⟨_, _, _, _, _, _, _, _, _, rfl, _⟩ := h; rfl)
    | (unfold sp_part at h; split at h <;> first | rfl | exact h.elim)) (fun _ _ _ _ _ _ us hl => match us, hl with | [_, _], _ => rfl) (fun f cd A outer s H E hG hr => t_part (k := 1) (by omega) T (c_divisor T) f cd A outer s H E hG hr) r_part
theorem c_place (T : Tx K mg) : Can P w K mg base 2 "_law_place" s_place ["_law_x", "_law_y", "_law_w"] sp_place :=
  can_of T.h_place sc_place (fun ds s Q h => by
    first
    | (obtain ⟨_, rfl, _⟩ := h; rfl)
    | (obtain ⟨_, _, rfl, _⟩ := h; rfl)
    | (obtain ⟨_, _, _, rfl, _⟩ := h; rfl)
    | (obtain ⟨_, _, _, _, rfl, _⟩ := h; rfl)
    | (obtain ⟨_, _, _, _, _, rfl, _⟩ := h; rfl)
    | (obtain ⟨_, _, _, _, _, _, rfl, _⟩ := h; rfl)
    | (obtain ⟨_, _, _, _, _, _, _, rfl, _⟩ := h; rfl)
    | (obtain ⟨_, _, _, _, _, _, _, _, rfl, _⟩ := h; rfl)
    | (obtain ⟨_, _, _, _, _, _, _, _, _, rfl, _⟩ := h; rfl)
    | (unfold sp_place at h; split at h <;> first | rfl | exact h.elim)) (fun _ _ _ _ _ _ us hl => match us, hl with | [_, _, _], _ => rfl) (fun f cd A outer s H E hG hr => t_place (k := 1) (by omega) T (c_divisor T) f cd A outer s H E hG hr) r_place
theorem c_told (T : Tx K mg) : Can P w K mg base 3 "_law_told" s_told ["_law_place_here"] sp_told :=
  can_of T.h_told sc_told (fun ds s Q h => by
    first
    | (obtain ⟨_, rfl, _⟩ := h; rfl)
    | (obtain ⟨_, _, rfl, _⟩ := h; rfl)
    | (obtain ⟨_, _, _, rfl, _⟩ := h; rfl)
    | (obtain ⟨_, _, _, _, rfl, _⟩ := h; rfl)
    | (obtain ⟨_, _, _, _, _, rfl, _⟩ := h; rfl)
    | (obtain ⟨_, _, _, _, _, _, rfl, _⟩ := h; rfl)
    | (obtain ⟨_, _, _, _, _, _, _, rfl, _⟩ := h; rfl)
    | (obtain ⟨_, _, _, _, _, _, _, _, rfl, _⟩ := h; rfl)
    | (obtain ⟨_, _, _, _, _, _, _, _, _, rfl, _⟩ := h; rfl)
    | (unfold sp_told at h; split at h <;> first | rfl | exact h.elim)) (fun _ _ _ _ _ _ us hl => match us, hl with | [_], _ => rfl) (fun f cd A outer s H E hG hr => t_told (k := 2) (by omega) T (c_part T) f cd A outer s H E hG hr) r_told
theorem c_own (T : Tx K mg) : Can P w K mg base 3 "_law_own" s_own ["_law_told_here"] sp_own :=
  can_of T.h_own sc_own (fun ds s Q h => by
    first
    | (obtain ⟨_, rfl, _⟩ := h; rfl)
    | (obtain ⟨_, _, rfl, _⟩ := h; rfl)
    | (obtain ⟨_, _, _, rfl, _⟩ := h; rfl)
    | (obtain ⟨_, _, _, _, rfl, _⟩ := h; rfl)
    | (obtain ⟨_, _, _, _, _, rfl, _⟩ := h; rfl)
    | (obtain ⟨_, _, _, _, _, _, rfl, _⟩ := h; rfl)
    | (obtain ⟨_, _, _, _, _, _, _, rfl, _⟩ := h; rfl)
    | (obtain ⟨_, _, _, _, _, _, _, _, rfl, _⟩ := h; rfl)
    | (obtain ⟨_, _, _, _, _, _, _, _, _, rfl, _⟩ := h; rfl)
    | (unfold sp_own at h; split at h <;> first | rfl | exact h.elim)) (fun _ _ _ _ _ _ us hl => match us, hl with | [_], _ => rfl) (fun f cd A outer s H E hG hr => t_own (k := 2) (by omega) T (c_place T) f cd A outer s H E hG hr) r_own
theorem c_l_half (T : Tx K mg) : Can P w K mg base 1 "_law_half" s_l_half ["_law_line"] sp_l_half :=
  can_of T.h_l_half sc_l_half (fun ds s Q h => by
    first
    | (obtain ⟨_, rfl, _⟩ := h; rfl)
    | (obtain ⟨_, _, rfl, _⟩ := h; rfl)
    | (obtain ⟨_, _, _, rfl, _⟩ := h; rfl)
    | (obtain ⟨_, _, _, _, rfl, _⟩ := h; rfl)
    | (obtain ⟨_, _, _, _, _, rfl, _⟩ := h; rfl)
    | (obtain ⟨_, _, _, _, _, _, rfl, _⟩ := h; rfl)
    | (obtain ⟨_, _, _, _, _, _, _, rfl, _⟩ := h; rfl)
    | (obtain ⟨_, _, _, _, _, _, _, _, rfl, _⟩ := h; rfl)
    | (obtain ⟨_, _, _, _, _, _, _, _, _, rfl, _⟩ := h; rfl)
    | (unfold sp_l_half at h; split at h <;> first | rfl | exact h.elim)) (fun _ _ _ _ _ _ us hl => match us, hl with | [_], _ => rfl) (fun f cd A outer s H E hG hr => t_l_half (k := 0) (by omega) T  f cd A outer s H E hG hr) r_l_half
theorem c_l_is_ahead (T : Tx K mg) : Can P w K mg base 2 "_law_is_ahead" s_l_is_ahead ["_law_one", "_law_two"] sp_l_is_ahead :=
  can_of T.h_l_is_ahead sc_l_is_ahead (fun ds s Q h => by
    first
    | (obtain ⟨_, rfl, _⟩ := h; rfl)
    | (obtain ⟨_, _, rfl, _⟩ := h; rfl)
    | (obtain ⟨_, _, _, rfl, _⟩ := h; rfl)
    | (obtain ⟨_, _, _, _, rfl, _⟩ := h; rfl)
    | (obtain ⟨_, _, _, _, _, rfl, _⟩ := h; rfl)
    | (obtain ⟨_, _, _, _, _, _, rfl, _⟩ := h; rfl)
    | (obtain ⟨_, _, _, _, _, _, _, rfl, _⟩ := h; rfl)
    | (obtain ⟨_, _, _, _, _, _, _, _, rfl, _⟩ := h; rfl)
    | (obtain ⟨_, _, _, _, _, _, _, _, _, rfl, _⟩ := h; rfl)
    | (unfold sp_l_is_ahead at h; split at h <;> first | rfl | exact h.elim)) (fun _ _ _ _ _ _ us hl => match us, hl with | [_, _], _ => rfl) (fun f cd A outer s H E hG hr => t_l_is_ahead (k := 1) (by omega) T (c_l_half T) f cd A outer s H E hG hr) r_l_is_ahead
theorem c_by_lines (T : Tx K mg) : Can P w K mg base 3 "_law_by_lines" s_by_lines ["_law_some"] sp_by_lines :=
  can_of T.h_by_lines sc_by_lines (fun ds s Q h => by
    first
    | (obtain ⟨_, rfl, _⟩ := h; rfl)
    | (obtain ⟨_, _, rfl, _⟩ := h; rfl)
    | (obtain ⟨_, _, _, rfl, _⟩ := h; rfl)
    | (obtain ⟨_, _, _, _, rfl, _⟩ := h; rfl)
    | (obtain ⟨_, _, _, _, _, rfl, _⟩ := h; rfl)
    | (obtain ⟨_, _, _, _, _, _, rfl, _⟩ := h; rfl)
    | (obtain ⟨_, _, _, _, _, _, _, rfl, _⟩ := h; rfl)
    | (obtain ⟨_, _, _, _, _, _, _, _, rfl, _⟩ := h; rfl)
    | (obtain ⟨_, _, _, _, _, _, _, _, _, rfl, _⟩ := h; rfl)
    | (unfold sp_by_lines at h; split at h <;> first | rfl | exact h.elim)) (fun _ _ _ _ _ _ us hl => match us, hl with | [_], _ => rfl) (fun f cd A outer s H E hG hr => t_by_lines (k := 2) (by omega) T (c_l_is_ahead T) f cd A outer s H E hG hr) r_by_lines
theorem c_frame (T : Tx K mg) : Can P w K mg base 3 "_law_frame" s_frame ["_law_spring_here"] sp_frame :=
  can_of T.h_frame sc_frame (fun ds s Q h => by
    first
    | (obtain ⟨_, rfl, _⟩ := h; rfl)
    | (obtain ⟨_, _, rfl, _⟩ := h; rfl)
    | (obtain ⟨_, _, _, rfl, _⟩ := h; rfl)
    | (obtain ⟨_, _, _, _, rfl, _⟩ := h; rfl)
    | (obtain ⟨_, _, _, _, _, rfl, _⟩ := h; rfl)
    | (obtain ⟨_, _, _, _, _, _, rfl, _⟩ := h; rfl)
    | (obtain ⟨_, _, _, _, _, _, _, rfl, _⟩ := h; rfl)
    | (obtain ⟨_, _, _, _, _, _, _, _, rfl, _⟩ := h; rfl)
    | (obtain ⟨_, _, _, _, _, _, _, _, _, rfl, _⟩ := h; rfl)
    | (unfold sp_frame at h; split at h <;> first | rfl | exact h.elim)) (fun _ _ _ _ _ _ us hl => match us, hl with | [_], _ => rfl) (fun f cd A outer s H E hG hr => t_frame (k := 2) (by omega) T (c_one_of T) f cd A outer s H E hG hr) r_frame
theorem c_grid (T : Tx K mg) : Can P w K mg base 3 "_law_grid" s_grid ["_law_frame_here", "_law_i", "_law_j", "_law_n"] sp_grid :=
  can_of T.h_grid sc_grid (fun ds s Q h => by
    first
    | (obtain ⟨_, rfl, _⟩ := h; rfl)
    | (obtain ⟨_, _, rfl, _⟩ := h; rfl)
    | (obtain ⟨_, _, _, rfl, _⟩ := h; rfl)
    | (obtain ⟨_, _, _, _, rfl, _⟩ := h; rfl)
    | (obtain ⟨_, _, _, _, _, rfl, _⟩ := h; rfl)
    | (obtain ⟨_, _, _, _, _, _, rfl, _⟩ := h; rfl)
    | (obtain ⟨_, _, _, _, _, _, _, rfl, _⟩ := h; rfl)
    | (obtain ⟨_, _, _, _, _, _, _, _, rfl, _⟩ := h; rfl)
    | (obtain ⟨_, _, _, _, _, _, _, _, _, rfl, _⟩ := h; rfl)
    | (unfold sp_grid at h; split at h <;> first | rfl | exact h.elim)) (fun _ _ _ _ _ _ us hl => match us, hl with | [_, _, _, _], _ => rfl) (fun f cd A outer s H E hG hr => t_grid (k := 2) (by omega) T (c_part T) f cd A outer s H E hG hr) r_grid
theorem c_dot (T : Tx K mg) : Can P w K mg base 4 "_law_dot" s_dot ["_law_spring_here", "_law_frame_here"] sp_dot :=
  can_of T.h_dot sc_dot (fun ds s Q h => by
    first
    | (obtain ⟨_, rfl, _⟩ := h; rfl)
    | (obtain ⟨_, _, rfl, _⟩ := h; rfl)
    | (obtain ⟨_, _, _, rfl, _⟩ := h; rfl)
    | (obtain ⟨_, _, _, _, rfl, _⟩ := h; rfl)
    | (obtain ⟨_, _, _, _, _, rfl, _⟩ := h; rfl)
    | (obtain ⟨_, _, _, _, _, _, rfl, _⟩ := h; rfl)
    | (obtain ⟨_, _, _, _, _, _, _, rfl, _⟩ := h; rfl)
    | (obtain ⟨_, _, _, _, _, _, _, _, rfl, _⟩ := h; rfl)
    | (obtain ⟨_, _, _, _, _, _, _, _, _, rfl, _⟩ := h; rfl)
    | (unfold sp_dot at h; split at h <;> first | rfl | exact h.elim)) (fun _ _ _ _ _ _ us hl => match us, hl with | [_, _], _ => rfl) (fun f cd A outer s H E hG hr => t_dot (k := 3) (by omega) T (c_one_of T) (c_draw T) (c_grid T) f cd A outer s H E hG hr) r_dot
theorem c_others (T : Tx K mg) : Can P w K mg base 5 "_law_others" s_others ["_law_spring_here", "_law_frame_here", "_law_here"] sp_others :=
  can_of T.h_others sc_others (fun ds s Q h => by
    first
    | (obtain ⟨_, rfl, _⟩ := h; rfl)
    | (obtain ⟨_, _, rfl, _⟩ := h; rfl)
    | (obtain ⟨_, _, _, rfl, _⟩ := h; rfl)
    | (obtain ⟨_, _, _, _, rfl, _⟩ := h; rfl)
    | (obtain ⟨_, _, _, _, _, rfl, _⟩ := h; rfl)
    | (obtain ⟨_, _, _, _, _, _, rfl, _⟩ := h; rfl)
    | (obtain ⟨_, _, _, _, _, _, _, rfl, _⟩ := h; rfl)
    | (obtain ⟨_, _, _, _, _, _, _, _, rfl, _⟩ := h; rfl)
    | (obtain ⟨_, _, _, _, _, _, _, _, _, rfl, _⟩ := h; rfl)
    | (unfold sp_others at h; split at h <;> first | rfl | exact h.elim)) (fun _ _ _ _ _ _ us hl => match us, hl with | [_, _, _], _ => rfl) (fun f cd A outer s H E hG hr => t_others (k := 4) (by omega) T (c_one_of T) (c_draw T) (c_place T) (c_own T) (c_dot T) (c_told T) f cd A outer s H E hG hr) r_others
theorem c_due (T : Tx K mg) : Can P w K mg base 4 "_law_due" s_due ["_law_here", "_law_row"] sp_due :=
  can_ofS T.h_due sc_due (fun ds s Q h => by
    first
    | (obtain ⟨_, rfl, _⟩ := h; rfl)
    | (obtain ⟨_, _, rfl, _⟩ := h; rfl)
    | (obtain ⟨_, _, _, rfl, _⟩ := h; rfl)
    | (obtain ⟨_, _, _, _, rfl, _⟩ := h; rfl)
    | (obtain ⟨_, _, _, _, _, rfl, _⟩ := h; rfl)
    | (obtain ⟨_, _, _, _, _, _, rfl, _⟩ := h; rfl)
    | (obtain ⟨_, _, _, _, _, _, _, rfl, _⟩ := h; rfl)
    | (obtain ⟨_, _, _, _, _, _, _, _, rfl, _⟩ := h; rfl)
    | (obtain ⟨_, _, _, _, _, _, _, _, _, rfl, _⟩ := h; rfl)
    | (unfold sp_due at h; split at h <;> first | rfl | exact h.elim)) (fun _ _ _ _ _ _ us hl => match us, hl with | [_, _], _ => rfl) (fun f cd A outer s H E hG hr => t_due (k := 3) (by omega) T (c_own T) (c_by_lines T) f cd A outer s H E hG hr) r_due
theorem c_right (T : Tx K mg) {F : Addr} {fdF : FuncData} (FF : FnD P w K mg base 2 F fdF ["first", "second"] sp_is_turned_less) (gF : mg "is_turned_less" = some (.ref F)) (hkF : PySem.W.keepIn K (.ref F) = true) (hbF : Binds K fdF ["first", "second"] []) : Can P w K mg base 11 "_law_right" s_right ["_law_spring_here"] sp_right :=
  can_of T.h_right sc_right (fun ds s Q h => by
    first
    | (obtain ⟨_, rfl, _⟩ := h; rfl)
    | (obtain ⟨_, _, rfl, _⟩ := h; rfl)
    | (obtain ⟨_, _, _, rfl, _⟩ := h; rfl)
    | (obtain ⟨_, _, _, _, rfl, _⟩ := h; rfl)
    | (obtain ⟨_, _, _, _, _, rfl, _⟩ := h; rfl)
    | (obtain ⟨_, _, _, _, _, _, rfl, _⟩ := h; rfl)
    | (obtain ⟨_, _, _, _, _, _, _, rfl, _⟩ := h; rfl)
    | (obtain ⟨_, _, _, _, _, _, _, _, rfl, _⟩ := h; rfl)
    | (obtain ⟨_, _, _, _, _, _, _, _, _, rfl, _⟩ := h; rfl)
    | (unfold sp_right at h; split at h <;> first | rfl | exact h.elim)) (fun _ _ _ _ _ _ us hl => match us, hl with | [_], _ => rfl) (fun f cd A outer s H E hG hr => t_right (k := 10) (by omega) T (c_frame T) (c_dot T) (c_own T) (c_others T) (c_due T) (c_in_turn T FF gF hkF hbF) f cd A outer s H E hG hr) r_right
end
end K04
namespace K04
open PySem PySem.Spec PyProof.Rows L2 DL LB
theorem has_mk {K : PySem.W.Frag} {h : Heap} {mg : Str → Option Value} {x : Str} {st : Stmt} {f : Addr} {od an : Option Addr} {sl : Array (Option Value)} {oc kV dc pm cd ct : Value} (X : K.In h) (G : h.Ns mainGlobals mg)
    (a : PySem.W.nsIn K mainGlobals x = some (some (.ref f))) (l : K.lookup f = some ⟨oc, od, .func (PySem.W.fnOf x x (defArgs st) (defBody st) (defScope st) .none kV dc pm an cd ct), sl⟩) (c : PySem.W.codeIn K cd x = true) (k : PySem.W.keepIn K (.ref f) = true) : Has K mg x st :=
  ⟨f, _, PySem.W.mg_of X G a, fun_mk l c k⟩
theorem law_mk {P : Program} {w : World} {K : PySem.W.Frag} {h : Heap} {mg : Str → Option Value} {fa f : Addr} {od an : Option Addr} {sl : Array (Option Value)} {oc kV dc pm cd ct : Value} (X : K.In h) (G : h.Ns mainGlobals mg) (hfa : mg "law" = some (.ref fa)) (T : Tx K mg)
    (a : PySem.W.nsIn K mainGlobals "law" = some (some (.ref f))) (l : K.lookup f = some ⟨oc, od, .func (PySem.W.fnOf "law" "law" (defArgs s_law) (defBody s_law) (defScope s_law) .none kV dc pm an cd ct), sl⟩) (c : PySem.W.codeIn K cd "law" = true) (k : PySem.W.keepIn K (.ref f) = true) :
    ∃ fd : FuncData, (∀ (s : Shared) (u : Value), BindsTo s fd ⟨[u], []⟩ [("_law_script", u)]) ∧ ∀ base : Heap, K.In base → base.Ns mainGlobals mg → FnD P w K mg base 12 fa fd ["_law_script"] sp_law := by
  have e := hfa.symm.trans (PySem.W.mg_of X G a)
  cases e
  exact ⟨PySem.W.fnOf "law" "law" (defArgs s_law) (defBody s_law) (defScope s_law) .none kV dc pm an cd ct, fun s v => .of_eq rfl, fun base _ _ => by
    obtain ⟨F, fdF, FF, gF, Fn, hbF⟩ := (c_is_turned_less (P := P) (w := w) (base := base) T).ex
    exact fnD_ok (fun_mk l c k) sc_law (fun ds s Q h => by
    unfold sp_law at h
    split at h <;> first | rfl | exact h.elim) (fun cd A outer s H E hG hr => t_law (k := 11) (by omega) T (c_right T FF gF Fn.kp hbF) (c_spring T) fa cd A outer s H E hG hr) r_law⟩
end K04
open PySem PySem.W PyProof.Rows
set_option maxHeartbeats 0 in
theorem PySem.Challenge.cw_bentalike_k04_directions_in_turn_by_own_holds : PySem.Challenge.rw_bentalike_k04_directions_in_turn_by_own.Holds := by
  w_on; o_law; k_head; (case hw => w_witness2)
  k_fill
  refine DL.walkG (l := PySem.Challenge.rw_bentalike_k04_directions_in_turn_by_own) (n := 63) (k := 12) (x := "_law_script") (sp := K04.sp_law) rfl (by decide) rfl ⟨rfl, by decide, by decide⟩ (fun w h Y => PySem.W.kIn_of Y) ?F (fun ns hl => ⟨hl, fun _ => rfl⟩)
  case F =>
    intro w mg fa h KX G hmg
    have n_abs : mg "abs" = none := PySem.W.mg_none_of KX G (by k_is)
    have n_all : mg "all" = none := PySem.W.mg_none_of KX G (by k_is)
    have n_bool : mg "bool" = none := PySem.W.mg_none_of KX G (by k_is)
    have n_divmod : mg "divmod" = none := PySem.W.mg_none_of KX G (by k_is)
    have n_enumerate : mg "enumerate" = none := PySem.W.mg_none_of KX G (by k_is)
    have n_int : mg "int" = none := PySem.W.mg_none_of KX G (by k_is)
    have n_isinstance : mg "isinstance" = none := PySem.W.mg_none_of KX G (by k_is)
    have n_len : mg "len" = none := PySem.W.mg_none_of KX G (by k_is)
    have n_list : mg "list" = none := PySem.W.mg_none_of KX G (by k_is)
    have n_max : mg "max" = none := PySem.W.mg_none_of KX G (by k_is)
    have n_min : mg "min" = none := PySem.W.mg_none_of KX G (by k_is)
    have n_range : mg "range" = none := PySem.W.mg_none_of KX G (by k_is)
    have n_repr : mg "repr" = none := PySem.W.mg_none_of KX G (by k_is)
    have n_tuple : mg "tuple" = none := PySem.W.mg_none_of KX G (by k_is)
    have m_gcd : mg "gcd" = some (.builtin "math.gcd") := PySem.W.mg_of KX G (by k_is)
    have m_lcm : mg "lcm" = some (.builtin "math.lcm") := PySem.W.mg_of KX G (by k_is)
    have g_MOST_IN_ROW : ∃ t, mg "MOST_IN_ROW" = some (.int 24 t) := ⟨_, PySem.W.mg_of KX G (by k_is)⟩
    refine' K04.law_mk KX G hmg ⟨n_abs, n_all, n_bool, n_divmod, n_enumerate, n_int, n_isinstance, n_len, n_list, n_max, n_min, n_range, n_repr, n_tuple, m_gcd, m_lcm, g_MOST_IN_ROW, K04.has_mk KX G ?a_is_whole ?l_is_whole ?c_is_whole ?k_is_whole, K04.has_mk KX G ?a_is_row ?l_is_row ?c_is_row ?k_is_row, K04.has_mk KX G ?a_is_fraction ?l_is_fraction ?c_is_fraction ?k_is_fraction, K04.has_mk KX G ?a_is_place ?l_is_place ?c_is_place ?k_is_place, K04.has_mk KX G ?a_check_point ?l_check_point ?c_check_point ?k_check_point, K04.has_mk KX G ?a_check_points ?l_check_points ?c_check_points ?k_check_points, K04.has_mk KX G ?a_merged ?l_merged ?c_merged ?k_merged, K04.has_mk KX G ?a_sorted_by ?l_sorted_by ?c_sorted_by ?k_sorted_by, K04.has_mk KX G ?a_scaled ?l_scaled ?c_scaled ?k_scaled, K04.has_mk KX G ?a_heading ?l_heading ?c_heading ?k_heading, K04.has_mk KX G ?a_is_lower_half ?l_is_lower_half ?c_is_lower_half ?k_is_lower_half, K04.has_mk KX G ?a_is_turned_less ?l_is_turned_less ?c_is_turned_less ?k_is_turned_less, K04.has_mk KX G ?a_in_turn ?l_in_turn ?c_in_turn ?k_in_turn, K04.has_mk KX G ?a_spring ?l_spring ?c_spring ?k_spring, K04.has_mk KX G ?a_draw ?l_draw ?c_draw ?k_draw, K04.has_mk KX G ?a_one_of ?l_one_of ?c_one_of ?k_one_of, K04.has_mk KX G ?a_divisor ?l_divisor ?c_divisor ?k_divisor, K04.has_mk KX G ?a_part ?l_part ?c_part ?k_part, K04.has_mk KX G ?a_place ?l_place ?c_place ?k_place, K04.has_mk KX G ?a_told ?l_told ?c_told ?k_told, K04.has_mk KX G ?a_own ?l_own ?c_own ?k_own, K04.has_mk KX G ?a_l_half ?l_l_half ?c_l_half ?k_l_half, K04.has_mk KX G ?a_l_is_ahead ?l_l_is_ahead ?c_l_is_ahead ?k_l_is_ahead, K04.has_mk KX G ?a_by_lines ?l_by_lines ?c_by_lines ?k_by_lines, K04.has_mk KX G ?a_frame ?l_frame ?c_frame ?k_frame, K04.has_mk KX G ?a_grid ?l_grid ?c_grid ?k_grid, K04.has_mk KX G ?a_dot ?l_dot ?c_dot ?k_dot, K04.has_mk KX G ?a_others ?l_others ?c_others ?k_others, K04.has_mk KX G ?a_due ?l_due ?c_due ?k_due, K04.has_mk KX G ?a_right ?l_right ?c_right ?k_right, K04.has_mk KX G ?a_law ?l_law ?c_law ?k_law⟩ ?a ?l ?c ?k
    (case a_is_whole => k_is); (case l_is_whole => k_is); (case c_is_whole => k_is); (case k_is_whole => k_is)
    (case a_is_row => k_is); (case l_is_row => k_is); (case c_is_row => k_is); (case k_is_row => k_is)
    (case a_is_fraction => k_is); (case l_is_fraction => k_is); (case c_is_fraction => k_is); (case k_is_fraction => k_is)
    (case a_is_place => k_is); (case l_is_place => k_is); (case c_is_place => k_is); (case k_is_place => k_is)
    (case a_check_point => k_is); (case l_check_point => k_is); (case c_check_point => k_is); (case k_check_point => k_is)
    (case a_check_points => k_is); (case l_check_points => k_is); (case c_check_points => k_is); (case k_check_points => k_is)
    (case a_merged => k_is); (case l_merged => k_is); (case c_merged => k_is); (case k_merged => k_is)
    (case a_sorted_by => k_is); (case l_sorted_by => k_is); (case c_sorted_by => k_is); (case k_sorted_by => k_is)
    (case a_scaled => k_is); (case l_scaled => k_is); (case c_scaled => k_is); (case k_scaled => k_is)
    (case a_heading => k_is); (case l_heading => k_is); (case c_heading => k_is); (case k_heading => k_is)
    (case a_is_lower_half => k_is); (case l_is_lower_half => k_is); (case c_is_lower_half => k_is); (case k_is_lower_half => k_is)
    (case a_is_turned_less => k_is); (case l_is_turned_less => k_is); (case c_is_turned_less => k_is); (case k_is_turned_less => k_is)
    (case a_in_turn => k_is); (case l_in_turn => k_is); (case c_in_turn => k_is); (case k_in_turn => k_is)
    (case a_spring => k_is); (case l_spring => k_is); (case c_spring => k_is); (case k_spring => k_is)
    (case a_draw => k_is); (case l_draw => k_is); (case c_draw => k_is); (case k_draw => k_is)
    (case a_one_of => k_is); (case l_one_of => k_is); (case c_one_of => k_is); (case k_one_of => k_is)
    (case a_divisor => k_is); (case l_divisor => k_is); (case c_divisor => k_is); (case k_divisor => k_is)
    (case a_part => k_is); (case l_part => k_is); (case c_part => k_is); (case k_part => k_is)
    (case a_place => k_is); (case l_place => k_is); (case c_place => k_is); (case k_place => k_is)
    (case a_told => k_is); (case l_told => k_is); (case c_told => k_is); (case k_told => k_is)
    (case a_own => k_is); (case l_own => k_is); (case c_own => k_is); (case k_own => k_is)
    (case a_l_half => k_is); (case l_l_half => k_is); (case c_l_half => k_is); (case k_l_half => k_is)
    (case a_l_is_ahead => k_is); (case l_l_is_ahead => k_is); (case c_l_is_ahead => k_is); (case k_l_is_ahead => k_is)
    (case a_by_lines => k_is); (case l_by_lines => k_is); (case c_by_lines => k_is); (case k_by_lines => k_is)
    (case a_frame => k_is); (case l_frame => k_is); (case c_frame => k_is); (case k_frame => k_is)
    (case a_grid => k_is); (case l_grid => k_is); (case c_grid => k_is); (case k_grid => k_is)
    (case a_dot => k_is); (case l_dot => k_is); (case c_dot => k_is); (case k_dot => k_is)
    (case a_others => k_is); (case l_others => k_is); (case c_others => k_is); (case k_others => k_is)
    (case a_due => k_is); (case l_due => k_is); (case c_due => k_is); (case k_due => k_is)
    (case a_right => k_is); (case l_right => k_is); (case c_right => k_is); (case k_right => k_is)
    (case a_law => k_is); (case l_law => k_is); (case c_law => k_is); (case k_law => k_is)
    (case a => k_is); (case l => k_is); (case c => k_is); (case k => k_is)
