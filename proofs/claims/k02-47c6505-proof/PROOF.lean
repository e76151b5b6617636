import PyProof.Rows.All
import HandS.ForExc
import HandS.ForMost
import HandS.IsInst
import HandS.Gcd
import HandS.Wide
import HandS.WideBits
import HandS.TupAny
import HandS.Style
import PyProof.ReprRoads
import KE.KMathGC
import PySem.Challenge.RW_bentalike_k02_points_and_segments_of_any
set_option Elab.async false
set_option linter.all false
set_option maxRecDepth 100000
set_option maxHeartbeats 4000000
namespace DL
open PySem PySem.Spec PyProof.Rows L2
/-- what a name may hold: a piece of data, a list that may still change, the script -/
inductive D where
  | d (x : PyData)
  | own (a : Addr)
  | scr (ns : List Int)
abbrev Sto := Addr → Option (List D)
def put (st : Sto) (a : Addr) (xs : List D) : Sto := fun b => if b = a then some xs else st b
theorem put_same {st : Sto} {a : Addr} {xs : List D} : put st a xs a = some xs := if_pos rfl
theorem put_ne {st : Sto} {a b : Addr} {xs : List D} (h : b ≠ a) : put st a xs b = st b := if_neg h
mutual
inductive Dv (K : PySem.W.Frag) (st : Sto) (H : Hp) : V → PyData → Prop
  | non : Dv K st H .non .none
  | bl (b : Bool) : Dv K st H (.bl b) (.bool b)
  | int (i : Int) : Dv K st H (.int i) (.int i)
  | str (x : Str) : Dv K st H (.str x) (.str x)
  | lst {a : Addr} {xs : List V} {ds : List PyData} (h : H a = some (.lst xs)) (f : st a = none) (r : Dvs K st H xs ds) : Dv K st H (.ref a) (.list ds)
  | tup {a : Addr} {xs : List V} {ds : List PyData} (h : SqT K H a xs) (r : Dvs K st H xs ds) : Dv K st H (.ref a) (.tuple ds)
  | dic {a : Addr} {kvs : List (Key × V)} {ps : List (PyData × PyData)} (h : H a = some (.dK kvs)) (f : st a = none)
      (r : Dvs K st H (kvs.map fun p => kV p.1) (ps.map (·.1))) (q : Dvs K st H (kvs.map (·.2)) (ps.map (·.2))) : Dv K st H (.ref a) (.dict ps)
inductive Dvs (K : PySem.W.Frag) (st : Sto) (H : Hp) : List V → List PyData → Prop
  | nil : Dvs K st H [] []
  | cons {v : V} {vs : List V} {x : PyData} {xs : List PyData} (h : Dv K st H v x) (t : Dvs K st H vs xs) : Dvs K st H (v :: vs) (x :: xs)
end
inductive DvD (K : PySem.W.Frag) (st : Sto) (H : Hp) : V → D → Prop
  | d {v : V} {x : PyData} (h : Dv K st H v x) : DvD K st H v (.d x)
  | own (a : Addr) : DvD K st H (.ref a) (.own a)
  | scr {a : Addr} {ns : List Int} (h : SqL K H a (ns.map V.int)) (f : (∃ o, H a = some (.frz o (.lst (ns.map V.int)))) ∨ SqL K (fun _ => none) a (ns.map V.int)) : DvD K st H (.ref a) (.scr ns)
abbrev DvsD (K : PySem.W.Frag) (st : Sto) (H : Hp) : List V → List D → Prop := Paired (DvD K st H)
/-- the store is held -/
def SR (K : PySem.W.Frag) (st : Sto) (H : Hp) : Prop := ∀ a ds, st a = some ds → ∃ xs, H a = some (.lst xs) ∧ DvsD K st H xs ds
/-- what was laid and not owned stays so -/
def Fr (st : Sto) (H : Hp) (st' : Sto) (H' : Hp) : Prop := ∀ b o, H b = some o → st b = none → H' b = some o ∧ st' b = none
theorem Fr.refl (st : Sto) (H : Hp) : Fr st H st H := fun _ _ h f => ⟨h, f⟩
theorem Fr.trans {st st1 st2 : Sto} {H H1 H2 : Hp} (a : Fr st H st1 H1) (b : Fr st1 H1 st2 H2) : Fr st H st2 H2 := fun c o h f =>
  let ⟨h1, f1⟩ := a c o h f
  b c o h1 f1
theorem SR.free {K : PySem.W.Frag} {st : Sto} {H : Hp} (S : SR K st H) {a : Addr} {o : HO} (h : H a = some o) (n : ∀ xs, o ≠ .lst xs) : st a = none := by
  cases e : st a with
  | none => rfl
  | some ds =>
    obtain ⟨xs, q, _⟩ := S a ds e
    rw [h] at q
    exact absurd (Option.some.inj q) (n xs)
theorem SR.free0 {K : PySem.W.Frag} {st : Sto} {H : Hp} (S : SR K st H) {a : Addr} (h : H a = none) : st a = none := by
  cases e : st a with
  | none => rfl
  | some ds =>
    obtain ⟨xs, q, _⟩ := S a ds e
    rw [h] at q
    cases q
section
variable {K : PySem.W.Frag} {st st' : Sto} {H H' : Hp}
theorem sqT_mono (F : Fr st H st' H') (S : SR K st H) {a : Addr} {xs : List V} (h : SqT K H a xs) : SqT K H' a xs := by
  rcases h with (h | ⟨o, h⟩) | h
  · exact .inl (.inl (F a _ h (S.free h fun xs z => nomatch z)).1)
  · exact .inl (.inr ⟨o, (F a _ h (S.free h fun xs z => nomatch z)).1⟩)
  · exact .inr h
mutual
theorem Dv.mono (F : Fr st H st' H') (S : SR K st H) : ∀ {v : V} {x : PyData}, Dv K st H v x → Dv K st' H' v x
  | _, _, .non => .non
  | _, _, .bl b => .bl b
  | _, _, .int i => .int i
  | _, _, .str x => .str x
  | _, _, .lst h f r => .lst (F _ _ h f).1 (F _ _ h f).2 (Dvs.mono F S r)
  | _, _, .tup h r => .tup (sqT_mono F S h) (Dvs.mono F S r)
  | _, _, .dic h f r q => .dic (F _ _ h f).1 (F _ _ h f).2 (Dvs.mono F S r) (Dvs.mono F S q)
theorem Dvs.mono (F : Fr st H st' H') (S : SR K st H) : ∀ {vs : List V} {xs : List PyData}, Dvs K st H vs xs → Dvs K st' H' vs xs
  | _, _, .nil => .nil
  | _, _, .cons h t => .cons (Dv.mono F S h) (Dvs.mono F S t)
end
theorem DvD.mono (F : Fr st H st' H') (S : SR K st H) {v : V} {x : D} (h : DvD K st H v x) : DvD K st' H' v x := by
  cases h with
  | d h => exact .d (h.mono F S)
  | own a => exact .own a
  | scr h f =>
    rcases f with ⟨o, f⟩ | f
    · have q := (F _ _ f (S.free f fun xs z => nomatch z)).1
      exact .scr (.inl (.inr ⟨o, q⟩)) (.inl ⟨o, q⟩)
    · refine .scr ?_ (.inr f)
      rcases f with (f | ⟨o, f⟩) | f
      · cases f
      · cases f
      · exact .inr f
theorem DvsD.mono (F : Fr st H st' H') (S : SR K st H) : ∀ {vs : List V} {xs : List D}, DvsD K st H vs xs → DvsD K st' H' vs xs
  | _, _, .nil => .nil
  | _, _, .cons h t => .cons (h.mono F S) (DvsD.mono F S t)
theorem Dvs.length : ∀ {vs : List V} {xs : List PyData}, Dvs K st H vs xs → vs.length = xs.length
  | _, _, .nil => rfl
  | _, _, .cons _ t => by rw [List.length_cons, List.length_cons, Dvs.length t]
theorem Dvs.of : ∀ {vs : List V} {xs : List PyData}, DvsD K st H vs (xs.map D.d) → Dvs K st H vs xs
  | [], [], _ => .nil
  | _ :: _, _ :: _, .cons (.d h) t => .cons h (Dvs.of t)
theorem Dvs.to : ∀ {vs : List V} {xs : List PyData}, Dvs K st H vs xs → DvsD K st H vs (xs.map D.d)
  | _, _, .nil => .nil
  | _, _, .cons h t => .cons (.d h) (Dvs.to t)
theorem Dvs.append : ∀ {vs ws : List V} {xs ys : List PyData}, Dvs K st H vs xs → Dvs K st H ws ys → Dvs K st H (vs ++ ws) (xs ++ ys)
  | _, _, _, _, .nil, q => q
  | _, _, _, _, .cons h t, q => .cons h (Dvs.append t q)
theorem Dvs.drop : ∀ {vs : List V} {xs : List PyData} (n : Nat), Dvs K st H vs xs → Dvs K st H (vs.drop n) (xs.drop n)
  | _, _, 0, r => r
  | _, _, _ + 1, .nil => .nil
  | _, _, n + 1, .cons _ t => Dvs.drop n t
theorem Dvs.take : ∀ {vs : List V} {xs : List PyData} (n : Nat), Dvs K st H vs xs → Dvs K st H (vs.take n) (xs.take n)
  | _, _, 0, _ => .nil
  | _, _, _ + 1, .nil => .nil
  | _, _, n + 1, .cons h t => .cons h (Dvs.take n t)
theorem Dvs.get : ∀ {vs : List V} {xs : List PyData} {i : Nat} {x : PyData}, Dvs K st H vs xs → xs[i]? = some x → ∃ v, vs[i]? = some v ∧ Dv K st H v x
  | _, _, _, _, .nil, e => by simp at e
  | _, _, 0, _, .cons h _, e => by
    simp at e
    subst e
    exact ⟨_, rfl, h⟩
  | _, _, i + 1, x, .cons _ t, e => by
    obtain ⟨v, h1, h2⟩ := Dvs.get (i := i) (x := x) t (by simpa using e)
    exact ⟨v, by simpa using h1, h2⟩
theorem DvsD.get : ∀ {vs : List V} {xs : List D} {i : Nat} {x : D}, DvsD K st H vs xs → xs[i]? = some x → ∃ v, vs[i]? = some v ∧ DvD K st H v x
  | _, _, _, _, .nil, e => by simp at e
  | _, _, 0, _, .cons h _, e => by
    simp at e
    subst e
    exact ⟨_, rfl, h⟩
  | _, _, i + 1, x, .cons _ t, e => by
    obtain ⟨v, h1, h2⟩ := DvsD.get (i := i) (x := x) t (by simpa using e)
    exact ⟨v, by simpa using h1, h2⟩
theorem DvsD.snoc : ∀ {vs : List V} {xs : List D} {v : V} {x : D}, DvsD K st H vs xs → DvD K st H v x → DvsD K st H (vs ++ [v]) (xs ++ [x])
  | _, _, _, _, .nil, q => .cons q .nil
  | _, _, _, _, .cons h t, q => .cons h (DvsD.snoc t q)
theorem DvsD.set : ∀ {vs : List V} {xs : List D} {v : V} {x : D} (i : Nat), DvsD K st H vs xs → DvD K st H v x → DvsD K st H (vs.set i v) (xs.set i x)
  | _, _, _, _, _, .nil, _ => .nil
  | _, _, _, _, 0, .cons _ t, q => .cons q t
  | _, _, _, _, i + 1, .cons h t, q => .cons h (DvsD.set i t q)
end
/-! ### laying things -/
section
variable {K : PySem.W.Frag} {st : Sto} {H : Hp} {p : Addr} {o : HO}
theorem fr_new (hp : H p = none) : Fr st H st (upd H p o) := fun b u h f => ⟨by rw [upd_ne (ne_of_none h hp)]; exact h, f⟩
theorem sr_new (S : SR K st H) (hp : H p = none) : SR K st (upd H p o) := fun a ds e => by
  obtain ⟨xs, h, r⟩ := S a ds e
  exact ⟨xs, by rw [upd_ne (ne_of_none h hp)]; exact h, r.mono (fr_new hp) S⟩
theorem fr_own (hp : H p = none) {ds : List D} : Fr st H (put st p ds) (upd H p o) := fun b u h f => by
  have n := ne_of_none h hp
  exact ⟨by rw [upd_ne n]; exact h, by rw [put_ne n]; exact f⟩
theorem sr_own (S : SR K st H) (hp : H p = none) {xs : List V} {ds : List D} (r : DvsD K st H xs ds) : SR K (put st p ds) (upd H p (.lst xs)) := fun a es e => by
  by_cases h : a = p
  · subst h
    rw [put_same] at e
    cases e
    exact ⟨xs, upd_same, r.mono (fr_own hp) S⟩
  · rw [put_ne h] at e
    obtain ⟨ys, q, r2⟩ := S a es e
    exact ⟨ys, by rw [upd_ne h]; exact q, r2.mono (fr_own hp) S⟩
/-- an owned list changes -/
theorem fr_put {ds es : List D} (ho : st p = some ds) : Fr st H (put st p es) (upd H p o) := fun b u h f => by
  have n : b ≠ p := fun z => by
    rw [z, ho] at f
    cases f
  exact ⟨by rw [upd_ne n]; exact h, by rw [put_ne n]; exact f⟩
theorem sr_put (S : SR K st H) {ds es : List D} (ho : st p = some ds) {xs : List V} (r : DvsD K st H xs es) : SR K (put st p es) (upd H p (.lst xs)) := fun a gs e => by
  by_cases h : a = p
  · subst h
    rw [put_same] at e
    cases e
    exact ⟨xs, upd_same, r.mono (fr_put ho) S⟩
  · rw [put_ne h] at e
    obtain ⟨ys, q, r2⟩ := S a gs e
    exact ⟨ys, by rw [upd_ne h]; exact q, r2.mono (fr_put ho) S⟩
end
/-! ### the judgements over data -/
abbrev Ed := List (Option D)
abbrev Kd := D → Sto → Prop
abbrev TEd := Ed → Sto → Kd → Prop
abbrev TTd := Ed → Sto → (Bool → Sto → Prop) → Prop
abbrev TAd := Ed → Sto → (List D → Sto → Prop) → Prop
structure EndsD where
  nx : Ed → Sto → Prop
  rt : Kd
  bk : Ed → Sto → Prop := fun _ _ => False
  ct : Ed → Sto → Prop := fun _ _ => False
abbrev TSd := EndsD → Ed → Sto → Prop
structure RE (K : PySem.W.Frag) (st : Sto) (H : Hp) (σ : L2.St) (e : Ed) : Prop where
  len : σ.length = e.length
  at_ : ∀ (i : Nat) (d : D), e[i]? = some (some d) → ∃ v, σ[i]? = some (some v) ∧ DvD K st H v d
theorem RE.mono {K : PySem.W.Frag} {st st' : Sto} {H H' : Hp} {σ : L2.St} {e : Ed} (r : RE K st H σ e) (F : Fr st H st' H') (S : SR K st H) : RE K st' H' σ e :=
  ⟨r.len, fun i d h => let ⟨v, h1, h2⟩ := r.at_ i d h; ⟨v, h1, h2.mono F S⟩⟩
theorem RE.set {K : PySem.W.Frag} {st : Sto} {H : Hp} {σ : L2.St} {e : Ed} (r : RE K st H σ e) {i : Nat} {v : V} {d : D} (h : DvD K st H v d) : RE K st H (σ.set i (some v)) (e.set i (some d)) := by
  refine ⟨by rw [List.length_set, List.length_set]; exact r.len, fun j x hj => ?_⟩
  by_cases hi : i = j
  · subst hi
    rw [List.getElem?_set] at hj ⊢
    rw [if_pos rfl] at hj ⊢
    rw [r.len]
    split at hj
    · rename_i hl
      rw [if_pos hl]
      cases Option.some.inj (Option.some.inj hj)
      exact ⟨v, rfl, h⟩
    · cases hj
  · rw [List.getElem?_set_ne hi] at hj ⊢
    exact r.at_ j x hj
/-- the store that is seen and one that is not -/
def jn (st hid : Sto) : Sto := fun a => match st a with
  | some ds => some ds
  | none => hid a
theorem jn_some {st hid : Sto} {a : Addr} {ds : List D} (h : st a = some ds) : jn st hid a = some ds := by
  unfold jn
  rw [h]
theorem jn_none {st hid : Sto} {a : Addr} (h : st a = none) : jn st hid a = hid a := by
  unfold jn
  rw [h]
theorem jn_put {st hid : Sto} {a : Addr} {ds : List D} : jn (put st a ds) hid = put (jn st hid) a ds := by
  funext b
  by_cases h : b = a
  · subst h
    rw [put_same, jn_some put_same]
  · rw [put_ne h]
    unfold jn
    rw [put_ne h]
theorem jn_free {st hid : Sto} {a : Addr} (h : jn st hid a = none) : st a = none ∧ hid a = none := by
  unfold jn at h
  cases e : st a with
  | some ds =>
    rw [e] at h
    cases h
  | none =>
    rw [e] at h
    exact ⟨rfl, h⟩
def cut (st : Sto) (a : Addr) : Sto := fun b => if b = a then none else st b
theorem cut_same {st : Sto} {a : Addr} : cut st a a = none := if_pos rfl
theorem cut_ne {st : Sto} {a b : Addr} (h : b ≠ a) : cut st a b = st b := if_neg h
structure Sx (K : PySem.W.Frag) (st hid : Sto) (H : Hp) : Prop where
  dj : ∀ a, hid a ≠ none → st a = none
  sr : SR K (jn st hid) H
abbrev FrX (st hid : Sto) (H : Hp) (st' : Sto) (H' : Hp) : Prop := Fr (jn st hid) H (jn st' hid) H'
section
variable {K : PySem.W.Frag} {st hid : Sto} {H : Hp} {p : Addr} {o : HO}
theorem Sx.new (S : Sx K st hid H) (hp : H p = none) : Sx K st hid (upd H p o) := ⟨S.dj, sr_new S.sr hp⟩
theorem Sx.own (S : Sx K st hid H) (hp : H p = none) {xs : List V} {ds : List D} (r : DvsD K (jn st hid) H xs ds) : Sx K (put st p ds) hid (upd H p (.lst xs)) := by
  refine ⟨fun a h => ?_, by rw [jn_put]; exact sr_own S.sr hp r⟩
  by_cases e : a = p
  · subst e
    exact absurd (jn_free (S.sr.free0 hp)).2 h
  · rw [put_ne e]
    exact S.dj a h
theorem fx_own (hp : H p = none) {ds : List D} : FrX st hid H (put st p ds) (upd H p o) := by
  unfold FrX
  rw [jn_put]
  exact fr_own hp
theorem Sx.store (S : Sx K st hid H) {ds es : List D} (ho : st p = some ds) {xs : List V} (r : DvsD K (jn st hid) H xs es) : Sx K (put st p es) hid (upd H p (.lst xs)) := by
  refine ⟨fun a h => ?_, by rw [jn_put]; exact sr_put S.sr (jn_some ho) r⟩
  by_cases e : a = p
  · subst e
    have := S.dj a h
    rw [ho] at this
    cases this
  · rw [put_ne e]
    exact S.dj a h
theorem fx_put {ds es : List D} (ho : st p = some ds) : FrX st hid H (put st p es) (upd H p o) := by
  unfold FrX
  rw [jn_put]
  exact fr_put (jn_some ho)
theorem Sx.frz (S : Sx K st hid H) {ds : List D} (ho : st p = some ds) : Sx K (cut st p) hid H ∧ FrX st hid H (cut st p) H ∧ jn (cut st p) hid p = none := by
  have hp : hid p = none := by
    cases e : hid p with
    | none => rfl
    | some es =>
      have := S.dj p (by rw [e]; exact fun z => nomatch z)
      rw [ho] at this
      cases this
  have hj : ∀ b, b ≠ p → jn (cut st p) hid b = jn st hid b := fun b n => by
    unfold jn
    rw [cut_ne n]
  have hjp : jn (cut st p) hid p = none := (jn_none cut_same).trans hp
  have F : FrX st hid H (cut st p) H := fun b o h f => ⟨h, by
    by_cases n : b = p
    · rw [n]
      exact hjp
    · rw [hj b n]
      exact f⟩
  refine ⟨⟨fun a h => ?_, fun a es e => ?_⟩, F, hjp⟩
  · by_cases n : a = p
    · rw [n]
      exact cut_same
    · rw [cut_ne n]
      exact S.dj a h
  · have n : a ≠ p := fun z => by
      rw [z, hjp] at e
      cases e
    rw [hj a n] at e
    obtain ⟨xs, q, r⟩ := S.sr a es e
    exact ⟨xs, q, r.mono F S.sr⟩
theorem Sx.at_ (S : Sx K st hid H) {ds : List D} (ho : st p = some ds) : ∃ xs, H p = some (.lst xs) ∧ DvsD K (jn st hid) H xs ds := S.sr p ds (jn_some ho)
end
/-- what a rule over data promises of a value -/
abbrev Go (K : PySem.W.Frag) (st hid : Sto) (H : Hp) (Qd : Kd) (Q : VK) : Prop := ∀ v H' d st', FrX st hid H st' H' → Sx K st' hid H' → DvD K (jn st' hid) H' v d → Qd d st' → Q v H'
abbrev GoT (K : PySem.W.Frag) (st hid : Sto) (H : Hp) (Qd : Bool → Sto → Prop) (Q : Bool → Hp → Prop) : Prop := ∀ b H' st', FrX st hid H st' H' → Sx K st' hid H' → Qd b st' → Q b H'
abbrev GoA (K : PySem.W.Frag) (st hid : Sto) (H : Hp) (Qd : List D → Sto → Prop) (Q : List V → Hp → Prop) : Prop := ∀ vs H' ds st', FrX st hid H st' H' → Sx K st' hid H' → DvsD K (jn st' hid) H' vs ds → Qd ds st' → Q vs H'
abbrev GoS (K : PySem.W.Frag) (st hid : Sto) (H : Hp) (Qd : Ed → Sto → Prop) (Q : L2.St → Hp → Prop) : Prop := ∀ σ' H' e' st', FrX st hid H st' H' → Sx K st' hid H' → RE K (jn st' hid) H' σ' e' → Qd e' st' → Q σ' H'
def up (K : PySem.W.Frag) (t : TEd) : TE := fun σ H Q => ∃ e st hid Qd, RE K (jn st hid) H σ e ∧ Sx K st hid H ∧ t e st Qd ∧ Go K st hid H Qd Q
def upT (K : PySem.W.Frag) (t : TTd) : TT := fun σ H Q => ∃ e st hid Qd, RE K (jn st hid) H σ e ∧ Sx K st hid H ∧ t e st Qd ∧ GoT K st hid H Qd Q
def upA (K : PySem.W.Frag) (t : TAd) : TA := fun σ H Q => ∃ e st hid Qd, RE K (jn st hid) H σ e ∧ Sx K st hid H ∧ t e st Qd ∧ GoA K st hid H Qd Q
def upS (K : PySem.W.Frag) (t : TSd) : TS := fun E σ H => ∃ e st hid Ed, RE K (jn st hid) H σ e ∧ Sx K st hid H ∧ t Ed e st ∧ GoS K st hid H Ed.nx E.nx ∧ Go K st hid H Ed.rt E.rt ∧ GoS K st hid H Ed.bk E.bk ∧ GoS K st hid H Ed.ct E.ct
section
variable {K : PySem.W.Frag} {st hid st1 : Sto} {H H1 : Hp}
theorem Go.mono {Qd : Kd} {Q : VK} (g : Go K st hid H Qd Q) (F : FrX st hid H st1 H1) : Go K st1 hid H1 Qd Q := fun v H' d st' F' => g v H' d st' (Fr.trans F F')
theorem GoT.mono {Qd : Bool → Sto → Prop} {Q : Bool → Hp → Prop} (g : GoT K st hid H Qd Q) (F : FrX st hid H st1 H1) : GoT K st1 hid H1 Qd Q := fun b H' st' F' => g b H' st' (Fr.trans F F')
theorem GoA.mono {Qd : List D → Sto → Prop} {Q : List V → Hp → Prop} (g : GoA K st hid H Qd Q) (F : FrX st hid H st1 H1) : GoA K st1 hid H1 Qd Q := fun b H' ds st' F' => g b H' ds st' (Fr.trans F F')
theorem GoS.mono {Qd : Ed → Sto → Prop} {Q : L2.St → Hp → Prop} (g : GoS K st hid H Qd Q) (F : FrX st hid H st1 H1) : GoS K st1 hid H1 Qd Q := fun v H' d st' F' => g v H' d st' (Fr.trans F F')
theorem Go.now {Qd : Kd} {Q : VK} (g : Go K st hid H Qd Q) {v : V} {d : D} (S : Sx K st hid H) (h : DvD K (jn st hid) H v d) (q : Qd d st) : Q v H := g v H d st (Fr.refl _ _) S h q
/-- a new thing laid -/
theorem Go.new {Qd : Kd} {Q : VK} (g : Go K st hid H Qd Q) {p : Addr} {o : HO} {d : D} (S : Sx K st hid H) (hp : H p = none) (h : DvD K (jn st hid) (upd H p o) (.ref p) d) (q : Qd d st) : Q (.ref p) (upd H p o) := g _ _ d st (fr_new hp) (S.new hp) h q
end
abbrev PD (X : Cx) (e : Expr) (t : TEd) : Prop := PE X e (up X.K t)
abbrev PDT (X : Cx) (e : Expr) (t : TTd) : Prop := PT X e (upT X.K t)
abbrev PDW (X : Cx) (e : Expr) (t : TTd) : Prop := PW X e (upT X.K t)
abbrev PDA (X : Cx) (es : List Expr) (t : TAd) : Prop := PA X es (upA X.K t)
abbrev PDS (X : Cx) (s : Stmt) (t : TSd) : Prop := PS X s (upS X.K t)
abbrev PDSs (X : Cx) (s : List Stmt) (t : TSd) : Prop := PSs X s (upS X.K t)
theorem PE.imp {X : Cx} {e : Expr} {t t' : TE} (h : PE X e t) (i : ∀ σ H Q, t' σ H Q → t σ H Q) : PE X e t' := ⟨fun pins s σ H Q I w => h.run pins s σ H Q I (i σ H Q w)⟩
theorem PT.imp {X : Cx} {e : Expr} {t t' : TT} (h : PT X e t) (i : ∀ σ H Q, t' σ H Q → t σ H Q) : PT X e t' := ⟨fun pins s σ H Q I w => h.run pins s σ H Q I (i σ H Q w)⟩
theorem PW.imp {X : Cx} {e : Expr} {t t' : TT} (h : PW X e t) (i : ∀ σ H Q, t' σ H Q → t σ H Q) : PW X e t' := ⟨fun wh pins s σ H Q I w => h.run wh pins s σ H Q I (i σ H Q w)⟩
theorem PA.imp {X : Cx} {e : List Expr} {t t' : TA} (h : PA X e t) (i : ∀ σ H Q, t' σ H Q → t σ H Q) : PA X e t' := ⟨fun pos pins s σ H Q I w => h.run pos pins s σ H Q I (i σ H Q w)⟩
theorem PS.imp {X : Cx} {e : Stmt} {t t' : TS} (h : PS X e t) (i : ∀ D σ H, t' D σ H → t D σ H) : PS X e t' := ⟨fun pins s σ H Q I w => h.run pins s σ H Q I (i Q σ H w)⟩
theorem PSs.imp {X : Cx} {e : List Stmt} {t t' : TS} (h : PSs X e t) (i : ∀ D σ H, t' D σ H → t D σ H) : PSs X e t' := ⟨fun pins s σ H Q I w => h.run pins s σ H Q I (i Q σ H w)⟩
/-! ### names, constants -/
section
variable {X : Cx} {pos : Pos} {a b c : Expr} {ta tb tc : TEd}
def dVar (i : Nat) : TEd := fun e st Q => ∃ d, e[i]? = some (some d) ∧ Q d st
theorem pd (i : Nat) {x : Str} (hN : X.N[i]? = some x := by rfl) (hv : Vis X.env.scope x := by first | exact Or.inl rfl | exact Or.inr (Or.inl rfl) | exact Or.inr (Or.inr rfl)) (hd : (x == ("__debug__" : Str)) = false := by decide)
    (hcd : (x == ("__classdict__" : Str)) = false := by decide) : PD X (.Name x pos) (dVar i) :=
  PE.imp (pe_var hN hv hd hcd) fun σ H Q ⟨e, st, hid, Qd, re, S, ⟨d, h, q⟩, k⟩ => by
    obtain ⟨v, h1, h2⟩ := re.at_ i d h
    exact ⟨v, h1, k.now S h2 q⟩
def dC (x : PyData) : TEd := fun _ st Q => Q (.d x) st
theorem pd_int {i : Int} {j : Nat} : PD X (.Constant (.int i) j pos) (dC (.int i)) :=
  PE.imp pe_int fun σ H Q ⟨e, st, hid, Qd, re, S, q, k⟩ => k.now S (.d (.int i)) q
theorem pd_bl {b : Bool} {j : Nat} : PD X (.Constant (.bool b) j pos) (dC (.bool b)) :=
  PE.imp pe_bl fun σ H Q ⟨e, st, hid, Qd, re, S, q, k⟩ => k.now S (.d (.bl b)) q
theorem pd_non {j : Nat} : PD X (.Constant .none j pos) (dC .none) :=
  PE.imp pe_non fun σ H Q ⟨e, st, hid, Qd, re, S, q, k⟩ => k.now S (.d .non) q
theorem pd_str {x : Str} {j : Nat} : PD X (.Constant (.str x) j pos) (dC (.str x)) :=
  PE.imp pe_str fun σ H Q ⟨e, st, hid, Qd, re, S, q, k⟩ => k.now S (.d (.str x)) q
end
end DL
namespace DL
open PySem PySem.Spec PyProof.Rows L2
theorem OpR.imp {X : Cx} {f : Value → Value → Sem Value} {r r' : R2} (h : OpR X f r) (i : ∀ x y H Q, r' x y H Q → r x y H Q) : OpR X f r' := fun pins s σ H x y v u Q I rx ry q => h pins s σ H x y v u Q I rx ry (i x y H Q q)
/-! ### lists of things -/
def pures : List D → Option (List PyData)
  | [] => some []
  | .d x :: r => (pures r).map (x :: ·)
  | _ :: _ => none
theorem pures_eq : ∀ {ds : List D} {xs : List PyData}, pures ds = some xs → ds = xs.map D.d
  | [], _, h => by
    cases h
    rfl
  | .d x :: r, xs, h => by
    unfold pures at h
    cases e : pures r with
    | none =>
      rw [e] at h
      cases h
    | some ys =>
      rw [e] at h
      cases h
      rw [pures_eq e]
      rfl
  | .own _ :: _, _, h => by cases h
  | .scr _ :: _, _, h => by cases h
theorem pures_map : ∀ xs : List PyData, pures (xs.map D.d) = some xs
  | [] => rfl
  | x :: xs => by
    show (pures (xs.map D.d)).map (x :: ·) = _
    rw [pures_map xs]
    rfl
/-- a new list: a value, or one that may still change -/
def mkL (ds : List D) (st : Sto) (Q : Kd) : Prop := (∃ xs, pures ds = some xs ∧ Q (.d (.list xs)) st) ∨ (∀ p, st p = none → Q (.own p) (put st p ds))
theorem mkL_go {K : PySem.W.Frag} {st hid : Sto} {H : Hp} {Qd : Kd} {Q : VK} {ds : List D} {xs : List V} {p : Addr} (h : mkL ds st Qd) (S : Sx K st hid H) (hp : H p = none) (r : DvsD K (jn st hid) H xs ds) (k : Go K st hid H Qd Q) : Q (.ref p) (upd H p (.lst xs)) := by
  have fp := jn_free (S.sr.free0 hp)
  rcases h with ⟨ys, e, q⟩ | q
  · have e2 := pures_eq e
    subst e2
    exact k.new S hp (.d (.lst upd_same (S.sr.free0 hp) ((Dvs.of r).mono (fr_new hp) S.sr))) q
  · exact k _ _ (.own p) _ (fx_own hp) (S.own hp r) (.own p) (q p fp.1)
section
variable {X : Cx} {pos p p2 : Pos} {a b c e : Expr} {es rest : List Expr} {ta tb tc te : TEd} {t : TAd}
/-! ### argument lists, displays -/
def dNil : TAd := fun _ st Q => Q [] st
def dCons (ta : TEd) (tr : TAd) : TAd := fun e st Q => ta e st fun x st1 => tr e st1 fun xs st2 => Q (x :: xs) st2
theorem pda_nil : PDA X [] dNil := PA.imp pa_nil fun σ H Q ⟨e, st, hid, Qd, re, S, h, k⟩ => k [] H [] st (Fr.refl _ _) S .nil h
theorem pda_cons (ha : PD X e te) (hr : PDA X es t) (hs : starEach (e :: es) X.env = (false, eval e X.env) :: starEach es X.env := by rfl) : PDA X (e :: es) (dCons te t) :=
  PA.imp (pa_cons ha hr hs) fun σ H Q ⟨e, st, hid, Qd, re, S, h, k⟩ => ⟨e, st, hid, _, re, S, h, fun v1 H1 d1 st1 F1 S1 r1 h1 => ⟨e, st1, hid, _, re.mono F1 S.sr, S1, h1, fun vs H2 ds st2 F2 S2 r2 h2 =>
    k _ H2 (d1 :: ds) st2 (Fr.trans F1 F2) S2 (.cons (r1.mono F2 S1.sr) r2) h2⟩⟩
def dTup (t : TAd) : TEd := fun e st Q => t e st fun ds st' => match pures ds with
  | some xs => ds.length ≤ sizeLine ∧ Q (.d (.tuple xs)) st'
  | none => False
theorem pd_tup {x1} (h : PDA X es t) : PD X (.Tuple es x1 pos) (dTup t) :=
  PE.imp (pe_tup h) fun σ H Q ⟨e, st, hid, Qd, re, S, h, k⟩ => ⟨e, st, hid, _, re, S, h, fun vs H1 ds st1 F1 S1 r1 h1 => by
    cases q : pures ds with
    | none =>
      rw [q] at h1
      exact h1.elim
    | some xs =>
      rw [q] at h1
      have e2 := pures_eq q
      subst e2
      refine ⟨by rw [Paired.length r1]; exact h1.1, fun p hp => (k.mono F1).new S1 hp (.d (.tup (.inl (.inl upd_same)) ((Dvs.of r1).mono (fr_new hp) S1.sr))) h1.2⟩⟩
def dLst (t : TAd) : TEd := fun e st Q => t e st fun ds st' => ds.length ≤ sizeLine ∧ mkL ds st' Q
theorem pd_lst (h : PDA X es t) : PD X (.List es pos) (dLst t) :=
  PE.imp (pe_lst h) fun σ H Q ⟨e, st, hid, Qd, re, S, h, k⟩ => ⟨e, st, hid, _, re, S, h, fun vs H1 ds st1 F1 S1 r1 h1 =>
    ⟨by rw [Paired.length r1]; exact h1.1, fun p hp => mkL_go h1.2 S1 hp r1 (k.mono F1)⟩⟩
/-- .. as a value -/
def dLstV (t : TAd) : TEd := fun e st Q => t e st fun ds st' => match pures ds with
  | some xs => ds.length ≤ sizeLine ∧ Q (.d (.list xs)) st'
  | none => False
theorem pd_lstV (h : PDA X es t) : PD X (.List es pos) (dLstV t) :=
  PE.imp (pe_lst h) fun σ H Q ⟨e, st, hid, Qd, re, S, h, k⟩ => ⟨e, st, hid, _, re, S, h, fun vs H1 ds st1 F1 S1 r1 h1 => by
    cases q : pures ds with
    | none =>
      rw [q] at h1
      exact h1.elim
    | some xs =>
      rw [q] at h1
      exact ⟨by rw [Paired.length r1]; exact h1.1, fun p hp => mkL_go (.inl ⟨xs, q, h1.2⟩) S1 hp r1 (k.mono F1)⟩⟩
/-! ### operators -/
abbrev R2d := D → D → Sto → Kd → Prop
def upR (K : PySem.W.Frag) (r : R2d) : R2 := fun x y H Q => ∃ dx dy st hid Qd, DvD K (jn st hid) H x dx ∧ DvD K (jn st hid) H y dy ∧ Sx K st hid H ∧ r dx dy st Qd ∧ Go K st hid H Qd Q
def dBin (r : R2d) (ta tb : TEd) : TEd := fun e st Q => ta e st fun x st1 => tb e st1 fun y st2 => r x y st2 Q
theorem bin_imp {K : PySem.W.Frag} {r : R2d} {σ : L2.St} {H : Hp} {Q : VK} (w : up K (dBin r ta tb) σ H Q) : tOp (upR K r) (up K ta) (up K tb) σ H Q := by
  obtain ⟨e, st, hid, Qd, re, S, h, k⟩ := w
  exact ⟨e, st, hid, _, re, S, h, fun v1 H1 d1 st1 F1 S1 r1 h1 => ⟨e, st1, hid, _, re.mono F1 S.sr, S1, h1, fun v2 H2 d2 st2 F2 S2 r2 h2 =>
    ⟨d1, d2, st2, hid, Qd, r1.mono F2 S1.sr, r2, S2, h2, k.mono (Fr.trans F1 F2)⟩⟩⟩
theorem pd_bin {op : Operator} {r : R2d} (ho : OpR X (binaryOp op) (upR X.K r)) (ha : PD X a ta) (hb : PD X b tb) : PD X (.BinOp a op b pos) (dBin r ta tb) := PE.imp (pe_op ho ha hb) fun _ _ _ => bin_imp
theorem pd_cmp {op : CmpOp} {r : R2d} (ho : OpR X (compareOp op) (upR X.K r)) (ha : PD X a ta) (hb : PD X b tb) (hm : behindInMarks op b = false) : PD X (.Compare a [op] [b] pos) (dBin r ta tb) := PE.imp (pe_cmpR ho ha hb hm) fun _ _ _ => bin_imp
/-- a bool as a test -/
def asB (Q : Bool → Sto → Prop) : Kd := fun d st => match d with
  | .d (.bool b) => Q b st
  | _ => False
def dTst (t : TEd) : TTd := fun e st Q => t e st (asB Q)
theorem tst_go {K : PySem.W.Frag} {st hid : Sto} {H : Hp} {Qd : Bool → Sto → Prop} {Q : Bool → Hp → Prop} (k : GoT K st hid H Qd Q) : Go K st hid H (asB Qd) (fun x H' => ∃ c, x = .bl c ∧ Q c H') := fun v H' d st' F S r q => by
  cases r with
  | own a => exact q.elim
  | scr h f => exact q.elim
  | d h =>
    cases h with
    | bl b => exact ⟨b, rfl, k b H' st' F S q⟩
    | non => exact q.elim
    | int i => exact q.elim
    | str i => exact q.elim
    | lst h f r => exact q.elim
    | tup h r => exact q.elim
    | dic h f r z => exact q.elim
theorem pdt_val (h : PD X e te) (he : ∀ whole, isTrue e X.env whole = (do let v ← whole; standAt e.pos; holding [v] (truthy v)) := by intro _; rfl) : PDT X e (dTst te) :=
  PT.imp (pt_val h he) fun σ H Q ⟨e, st, hid, Qd, re, S, h, k⟩ => ⟨e, st, hid, _, re, S, h, tst_go k⟩
theorem pdt_cmp {op : CmpOp} {r : R2d} (ho : OpR X (compareOp op) (upR X.K r)) (ha : PD X a ta) (hb : PD X b tb) (hm : behindInMarks op b = false) : PDT X (.Compare a [op] [b] pos) (dTst (dBin r ta tb)) :=
  PT.imp (pt_cmpR ho ha hb hm) fun σ H Q ⟨e, st, hid, Qd, re, S, h, k⟩ => bin_imp ⟨e, st, hid, _, re, S, h, tst_go k⟩
def dChain (r r' : R2d) (ta tb tc : TEd) : TEd := fun e st Q => ta e st fun x st1 => tb e st1 fun y st2 => r x y st2 (asB fun k st3 => if k = true then tc e st3 fun z st4 => r' y z st4 Q else Q (.d (.bool false)) st3)
theorem chain_imp {K : PySem.W.Frag} {r r' : R2d} {σ : L2.St} {H : Hp} {Q : VK} (w : up K (dChain r r' ta tb tc) σ H Q) : tChain (upR K r) (upR K r') (up K ta) (up K tb) (up K tc) σ H Q := by
  obtain ⟨e, st, hid, Qd, re, S, h, k⟩ := w
  refine ⟨e, st, hid, _, re, S, h, fun v1 H1 d1 st1 F1 S1 r1 h1 => ⟨e, st1, hid, _, re.mono F1 S.sr, S1, h1, fun v2 H2 d2 st2 F2 S2 r2 h2 => ⟨d1, d2, st2, hid, _, r1.mono F2 S1.sr, r2, S2, h2, tst_go fun b H3 st3 F3 S3 h3 => ?_⟩⟩⟩
  have F := Fr.trans F1 (Fr.trans F2 F3)
  cases b with
  | false =>
    rw [if_neg Bool.false_ne_true] at h3 ⊢
    exact (k.mono F).now S3 (.d (.bl false)) h3
  | true =>
    rw [if_pos rfl] at h3 ⊢
    exact ⟨e, st3, hid, _, re.mono F S.sr, S3, h3, fun v4 H4 d4 st4 F4 S4 r4 h4 => ⟨d2, d4, st4, hid, Qd, r2.mono (Fr.trans F3 F4) S2.sr, r4, S4, h4, k.mono (Fr.trans F F4)⟩⟩
theorem pd_chain {op op' : CmpOp} {r r' : R2d} (ho : OpR X (compareOp op) (upR X.K r)) (ho' : OpR X (compareOp op') (upR X.K r')) (ha : PD X a ta) (hb : PD X b tb) (hc : PD X c tc)
    (hm : lastMarks [op, op'] [b, c] = false := by with_unfolding_all rfl) : PD X (.Compare a [op, op'] [b, c] pos) (dChain r r' ta tb tc) := PE.imp (pe_chain ho ho' ha hb hc hm) fun _ _ _ => chain_imp
theorem pdt_chain {op op' : CmpOp} {r r' : R2d} (ho : OpR X (compareOp op) (upR X.K r)) (ho' : OpR X (compareOp op') (upR X.K r')) (ha : PD X a ta) (hb : PD X b tb) (hc : PD X c tc)
    (hm : lastMarks [op, op'] [b, c] = false := by with_unfolding_all rfl) : PDT X (.Compare a [op, op'] [b, c] pos) (dTst (dChain r r' ta tb tc)) :=
  PT.imp (pt_chain ho ho' ha hb hc hm) fun σ H Q ⟨e, st, hid, Qd, re, S, h, k⟩ => chain_imp ⟨e, st, hid, _, re, S, h, tst_go k⟩
/-! ### and, or, not, if -/
variable {tA tB : TTd}
def dAndT (t u : TTd) : TTd := fun e st Q => t e st fun c st1 => if c = true then u e st1 Q else Q false st1
def dOrT (t u : TTd) : TTd := fun e st Q => t e st fun c st1 => if c = true then Q true st1 else u e st1 Q
def dNotT (t : TTd) : TTd := fun e st Q => t e st fun c st1 => Q (!c) st1
theorem pdw_and1 (ha : PDT X a tA) : PDW X (.BoolOp .And [a] pos) tA := pw_and1 ha
theorem pdw_or1 (ha : PDT X a tA) : PDW X (.BoolOp .Or [a] pos) tA := pw_or1 ha
theorem pdw_and (ha : PDT X a tA) (hb : PDW X (.BoolOp .And (b :: rest) pos) tB) : PDW X (.BoolOp .And (a :: b :: rest) pos) (dAndT tA tB) :=
  PW.imp (pw_and ha hb) fun σ H Q ⟨e, st, hid, Qd, re, S, h, k⟩ => ⟨e, st, hid, _, re, S, h, fun c H1 st1 F1 S1 h1 => by
    cases c with
    | true =>
      rw [if_pos rfl] at h1 ⊢
      exact ⟨e, st1, hid, Qd, re.mono F1 S.sr, S1, h1, k.mono F1⟩
    | false =>
      rw [if_neg Bool.false_ne_true] at h1 ⊢
      exact k false H1 st1 F1 S1 h1⟩
theorem pdw_or (ha : PDT X a tA) (hb : PDW X (.BoolOp .Or (b :: rest) pos) tB) : PDW X (.BoolOp .Or (a :: b :: rest) pos) (dOrT tA tB) :=
  PW.imp (pw_or ha hb) fun σ H Q ⟨e, st, hid, Qd, re, S, h, k⟩ => ⟨e, st, hid, _, re, S, h, fun c H1 st1 F1 S1 h1 => by
    cases c with
    | false =>
      rw [if_neg Bool.false_ne_true] at h1 ⊢
      exact ⟨e, st1, hid, Qd, re.mono F1 S.sr, S1, h1, k.mono F1⟩
    | true =>
      rw [if_pos rfl] at h1 ⊢
      exact k true H1 st1 F1 S1 h1⟩
theorem pdt_w (h : PDW X e tA) : PDT X e tA := h.pt
theorem pdt_not (ha : PDT X a tA) : PDT X (.UnaryOp .Not a pos) (dNotT tA) :=
  PT.imp (pt_not ha) fun σ H Q ⟨e, st, hid, Qd, re, S, h, k⟩ => ⟨e, st, hid, _, re, S, h, fun c H1 st1 F1 S1 h1 => k (!c) H1 st1 F1 S1 h1⟩
def dAnd (ta tb : TEd) : TEd := fun e st Q => ta e st (asB fun c st1 => if c = true then tb e st1 Q else Q (.d (.bool false)) st1)
def dOr (ta tb : TEd) : TEd := fun e st Q => ta e st (asB fun c st1 => if c = true then Q (.d (.bool true)) st1 else tb e st1 Q)
def dNot (ta : TEd) : TEd := fun e st Q => ta e st (asB fun c st1 => Q (.d (.bool (!c))) st1)
theorem pd_one {op} (h : PD X a ta) : PD X (.BoolOp op [a] pos) ta := pe_one h
theorem pd_and (ha : PD X a ta) (hb : PD X (.BoolOp .And (b :: rest) pos) tb) : PD X (.BoolOp .And (a :: b :: rest) pos) (dAnd ta tb) :=
  PE.imp (pe_and ha hb) fun σ H Q ⟨e, st, hid, Qd, re, S, h, k⟩ => ⟨e, st, hid, _, re, S, h, tst_go fun c H1 st1 F1 S1 h1 => by
    cases c with
    | true =>
      rw [if_pos rfl] at h1 ⊢
      exact ⟨e, st1, hid, Qd, re.mono F1 S.sr, S1, h1, k.mono F1⟩
    | false =>
      rw [if_neg Bool.false_ne_true] at h1 ⊢
      exact (k.mono F1).now S1 (.d (.bl false)) h1⟩
theorem pd_or (ha : PD X a ta) (hb : PD X (.BoolOp .Or (b :: rest) pos) tb) : PD X (.BoolOp .Or (a :: b :: rest) pos) (dOr ta tb) :=
  PE.imp (pe_or ha hb) fun σ H Q ⟨e, st, hid, Qd, re, S, h, k⟩ => ⟨e, st, hid, _, re, S, h, tst_go fun c H1 st1 F1 S1 h1 => by
    cases c with
    | false =>
      rw [if_neg Bool.false_ne_true] at h1 ⊢
      exact ⟨e, st1, hid, Qd, re.mono F1 S.sr, S1, h1, k.mono F1⟩
    | true =>
      rw [if_pos rfl] at h1 ⊢
      exact (k.mono F1).now S1 (.d (.bl true)) h1⟩
theorem pd_not (ha : PD X a ta) : PD X (.UnaryOp .Not a pos) (dNot ta) :=
  PE.imp (pe_not ha) fun σ H Q ⟨e, st, hid, Qd, re, S, h, k⟩ => ⟨e, st, hid, _, re, S, h, tst_go fun c H1 st1 F1 S1 h1 => (k.mono F1).now S1 (.d (.bl (!c))) h1⟩
def dIf (t : TTd) (ta tb : TEd) : TEd := fun e st Q => t e st fun c st1 => if c = true then ta e st1 Q else tb e st1 Q
theorem pd_if (hc : PDT X c tA) (ha : PD X a ta) (hb : PD X b tb) : PD X (.IfExp c a b pos) (dIf tA ta tb) :=
  PE.imp (pe_ifExp hc ha hb) fun σ H Q ⟨e, st, hid, Qd, re, S, h, k⟩ => ⟨e, st, hid, _, re, S, h, fun c H1 st1 F1 S1 h1 => by
    cases c with
    | true =>
      rw [if_pos rfl] at h1 ⊢
      exact ⟨e, st1, hid, Qd, re.mono F1 S.sr, S1, h1, k.mono F1⟩
    | false =>
      rw [if_neg Bool.false_ne_true] at h1 ⊢
      exact ⟨e, st1, hid, Qd, re.mono F1 S.sr, S1, h1, k.mono F1⟩⟩
/-- - i -/
def dNeg (ta : TEd) : TEd := fun e st Q => ta e st fun d st1 => match d with
  | .d (.int i) => Q (.d (.int (-i))) st1
  | _ => False
theorem pd_neg (ha : PD X a ta) : PD X (.UnaryOp .USub a pos) (dNeg ta) :=
  PE.imp (pe_un un_neg ha) fun σ H Q ⟨e, st, hid, Qd, re, S, h, k⟩ => ⟨e, st, hid, _, re, S, h, fun v H1 d st1 F1 S1 r h1 => by
    cases r with
    | own a => exact h1.elim
    | scr h f => exact h1.elim
    | d h =>
      cases h with
      | int i => exact ⟨i, rfl, (k.mono F1).now S1 (.d (.int (-i))) h1⟩
      | _ => exact h1.elim⟩
/-! ### ints -/
def rI2 (C : Int → Int → Prop) (g : Int → Int → PyData) : R2d := fun x y st Q => match x, y with
  | .d (.int i), .d (.int j) => C i j ∧ Q (.d (g i j)) st
  | _, _ => False
theorem rI2_at {K : PySem.W.Frag} {C : Int → Int → Prop} {g : Int → Int → PyData} {x y : V} {dx dy : D} {st hid : Sto} {H : Hp} {Q : Kd} (hx : DvD K (jn st hid) H x dx) (hy : DvD K (jn st hid) H y dy) (h : rI2 C g dx dy st Q) : ∃ i j, x = .int i ∧ y = .int j ∧ C i j ∧ Q (.d (g i j)) st := by
  cases hx with
  | own a => exact h.elim
  | scr h1 f => exact h.elim
  | d hx =>
    cases hy with
    | own a => cases hx <;> exact h.elim
    | scr h1 f => cases hx <;> exact h.elim
    | d hy =>
      cases hx with
      | int i =>
        cases hy with
        | int j => exact ⟨i, j, rfl, rfl, h.1, h.2⟩
        | _ => exact h.elim
      | _ => cases hy <;> exact h.elim
theorem up_int {f : Value → Value → Sem Value} {C : Int → Int → Prop} {g : Int → Int → Int} (h : OpR X f (rI C fun i j => .int (g i j))) : OpR X f (upR X.K (rI2 C fun i j => .int (g i j))) := OpR.imp h fun x y H Q ⟨dx, dy, st, hid, Qd, hx, hy, S, w, k⟩ => by
  obtain ⟨i, j, rfl, rfl, hc, q⟩ := rI2_at hx hy w
  exact ⟨i, j, rfl, rfl, hc, k.now S (.d (.int _)) q⟩
theorem up_int0 {f : Value → Value → Sem Value} {g : Int → Int → Int} (h : OpR X f (rI0 fun i j => .int (g i j))) : OpR X f (upR X.K (rI2 (fun _ _ => True) fun i j => .int (g i j))) := OpR.imp h fun x y H Q ⟨dx, dy, st, hid, Qd, hx, hy, S, w, k⟩ => by
  obtain ⟨i, j, rfl, rfl, hc, q⟩ := rI2_at hx hy w
  exact ⟨i, j, rfl, rfl, k.now S (.d (.int _)) q⟩
theorem up_cmp0 {f : Value → Value → Sem Value} {g : Int → Int → Bool} (h : OpR X f (rI0 fun i j => .bl (g i j))) : OpR X f (upR X.K (rI2 (fun _ _ => True) fun i j => .bool (g i j))) := OpR.imp h fun x y H Q ⟨dx, dy, st, hid, Qd, hx, hy, S, w, k⟩ => by
  obtain ⟨i, j, rfl, rfl, hc, q⟩ := rI2_at hx hy w
  exact ⟨i, j, rfl, rfl, k.now S (.d (.bl _)) q⟩
def rSubD : R2d := rI2 (fun _ _ => True) fun i j => .int (i - j)
def rMulD : R2d := rI2 CMulW fun i j => .int (i * j)
def rDivD : R2d := rI2 CDivW fun i j => .int (i / j)
def rModD : R2d := rI2 (fun _ j => 0 < j) fun i j => .int (i % j)
def rPowD : R2d := rI2 CPow fun i j => .int (i ^ j.toNat)
def rLtD : R2d := rI2 (fun _ _ => True) fun i j => .bool (decide (i < j))
def rLeD : R2d := rI2 (fun _ _ => True) fun i j => .bool (decide (i ≤ j))
def rGtD : R2d := rI2 (fun _ _ => True) fun i j => .bool (decide (j < i))
def rGeD : R2d := rI2 (fun _ _ => True) fun i j => .bool (decide (j ≤ i))
theorem o_sub : OpR X (binaryOp .Sub) (upR X.K rSubD) := up_int0 op_sub
theorem o_mul : OpR X (binaryOp .Mult) (upR X.K rMulD) := up_int op_mulW
theorem o_div : OpR X (binaryOp .FloorDiv) (upR X.K rDivD) := up_int op_fdivW
theorem o_mod : OpR X (binaryOp .Mod) (upR X.K rModD) := up_int op_mod
theorem o_pow : OpR X (binaryOp .Pow) (upR X.K rPowD) := up_int op_pow
theorem o_lt : OpR X (compareOp .Lt) (upR X.K rLtD) := up_cmp0 op_lt
theorem o_le : OpR X (compareOp .LtE) (upR X.K rLeD) := up_cmp0 op_le
theorem o_gt : OpR X (compareOp .Gt) (upR X.K rGtD) := up_cmp0 op_gt
theorem o_ge : OpR X (compareOp .GtE) (upR X.K rGeD) := up_cmp0 op_ge
end
end DL
namespace DL
open PySem PySem.Spec PyProof.Rows L2
/-! ### lists, read -/
def lstOf (d : D) (st : Sto) : Option (List D) := match d with
  | .d (.list xs) => some (xs.map D.d)
  | .own a => st a
  | .scr ns => some (ns.map fun n => .d (.int n))
  | _ => none
/-- .. such as a list display, an append may have made -/
def wlOf (d : D) (st : Sto) : Option (List D) := match d with
  | .d (.list xs) => some (xs.map D.d)
  | .own a => st a
  | _ => none
section
variable {K : PySem.W.Frag} {st hid : Sto} {H : Hp}
theorem ints_to : ∀ ns : List Int, DvsD K st H (ns.map V.int) (ns.map fun n => .d (.int n))
  | [] => .nil
  | n :: ns => .cons (.d (.int n)) (ints_to ns)
theorem wlOf_at {x : V} {d : D} {ds : List D} (r : DvD K (jn st hid) H x d) (S : Sx K st hid H) (e : wlOf d st = some ds) : ∃ a xs, x = .ref a ∧ H a = some (.lst xs) ∧ DvsD K (jn st hid) H xs ds := by
  cases r with
  | own a =>
    obtain ⟨xs, h1, h2⟩ := S.at_ (show st a = some ds from e)
    exact ⟨a, xs, rfl, h1, h2⟩
  | scr h f => cases e
  | d h =>
    cases h with
    | lst h f r =>
      cases (show some (_ : List D) = some ds from e)
      exact ⟨_, _, rfl, h, Dvs.to r⟩
    | _ => cases e
theorem lstOf_at {x : V} {d : D} {ds : List D} (r : DvD K (jn st hid) H x d) (S : Sx K st hid H) (e : lstOf d st = some ds) : ∃ a xs, x = .ref a ∧ SqL K H a xs ∧ DvsD K (jn st hid) H xs ds := by
  cases r with
  | own a =>
    obtain ⟨xs, h1, h2⟩ := S.at_ (show st a = some ds from e)
    exact ⟨a, xs, rfl, .inl (.inl h1), h2⟩
  | scr h f =>
    cases (show some (_ : List D) = some ds from e)
    exact ⟨_, _, rfl, h, ints_to _⟩
  | d h =>
    cases h with
    | lst h f r =>
      cases (show some (_ : List D) = some ds from e)
      exact ⟨_, _, rfl, .inl (.inl h), Dvs.to r⟩
    | _ => cases e
theorem tup_at {x : V} {xs : List PyData} (r : DvD K (jn st hid) H x (.d (.tuple xs))) : ∃ a vs, x = .ref a ∧ SqT K H a vs ∧ Dvs K (jn st hid) H vs xs := by
  cases r with
  | d h =>
    cases h with
    | tup h r => exact ⟨_, _, rfl, h, r⟩
theorem int_at {x : V} {i : Int} (r : DvD K (jn st hid) H x (.d (.int i))) : x = .int i := by
  cases r with
  | d h =>
    cases h with
    | int i => rfl
theorem str_at {x : V} {i : Str} (r : DvD K (jn st hid) H x (.d (.str i))) : x = .str i := by
  cases r with
  | d h =>
    cases h with
    | str i => rfl
theorem bl_at {x : V} {i : Bool} (r : DvD K (jn st hid) H x (.d (.bool i))) : x = .bl i := by
  cases r with
  | d h =>
    cases h with
    | bl i => rfl
theorem DvsD.append : ∀ {vs ws : List V} {xs ys : List D}, DvsD K st H vs xs → DvsD K st H ws ys → DvsD K st H (vs ++ ws) (xs ++ ys)
  | _, _, _, _, .nil, q => q
  | _, _, _, _, .cons h t, q => .cons h (DvsD.append t q)
theorem DvsD.drop : ∀ {vs : List V} {xs : List D} (n : Nat), DvsD K st H vs xs → DvsD K st H (vs.drop n) (xs.drop n)
  | _, _, 0, r => r
  | _, _, _ + 1, .nil => .nil
  | _, _, n + 1, .cons _ t => DvsD.drop n t
theorem DvsD.take : ∀ {vs : List V} {xs : List D} (n : Nat), DvsD K st H vs xs → DvsD K st H (vs.take n) (xs.take n)
  | _, _, 0, _ => .nil
  | _, _, _ + 1, .nil => .nil
  | _, _, n + 1, .cons h t => .cons h (DvsD.take n t)
theorem DvsD.reverse : ∀ {vs : List V} {xs : List D}, DvsD K st H vs xs → DvsD K st H vs.reverse xs.reverse
  | _, _, .nil => .nil
  | _, _, .cons h t => by
    rw [List.reverse_cons, List.reverse_cons]
    exact DvsD.snoc (DvsD.reverse t) h
theorem atI_pair {α β : Type} {xs : List α} {ys : List β} {i : Int} {y : β} (hl : xs.length = ys.length) (h : atI ys i = some y) : ∃ j : Nat, ys[j]? = some y ∧ ∀ x, xs[j]? = some x → atI xs i = some x := by
  unfold atI at h ⊢
  rw [hl]
  cases e : ixN ys.length i with
  | none =>
    rw [e] at h
    cases h
  | some j =>
    rw [e] at h
    exact ⟨j, h, fun x q => q⟩
theorem DvsD.at_ {vs : List V} {xs : List D} {i : Int} {d : D} (r : DvsD K st H vs xs) (h : atI xs i = some d) : ∃ v, atI vs i = some v ∧ DvD K st H v d := by
  obtain ⟨j, h1, h2⟩ := atI_pair (Paired.length r) h
  obtain ⟨v, h3, h4⟩ := r.get h1
  exact ⟨v, h2 v h3, h4⟩
theorem Dvs.at_ {vs : List V} {xs : List PyData} {i : Int} {d : PyData} (r : Dvs K st H vs xs) (h : atI xs i = some d) : ∃ v, atI vs i = some v ∧ Dv K st H v d := by
  obtain ⟨j, h1, h2⟩ := atI_pair r.length h
  obtain ⟨v, h3, h4⟩ := r.get h1
  exact ⟨v, h2 v h3, h4⟩
/-! data without dicts, as the library's == reads it -/
mutual
theorem Dv.dp : ∀ {v : V} {x : PyData}, Dv K st H v x → x.hasDict = false → Dp K H v x
  | _, _, .non, _ => .non
  | _, _, .bl b, _ => .bl b
  | _, _, .int i, _ => .int i
  | _, _, .str x, _ => .str x
  | _, _, .lst h f r, n => .lst (.inl (.inl h)) (Dvs.dp r (by simpa [PyData.hasDict] using n))
  | _, _, .tup h r, n => .tup h (Dvs.dp r (by simpa [PyData.hasDict] using n))
  | _, _, .dic h f r q, n => by simp [PyData.hasDict] at n
theorem Dvs.dp : ∀ {vs : List V} {xs : List PyData}, Dvs K st H vs xs → PyData.hasDictAll xs = false → DpAll K H vs xs
  | _, _, .nil, _ => .nil
  | _, _, .cons h t, n => by
    have n2 := (Bool.or_eq_false_iff.mp (show (PyData.hasDict _ || PyData.hasDictAll _) = false by simpa [PyData.hasDictAll] using n))
    exact .cons (Dv.dp h n2.1) (Dvs.dp t n2.2)
end
end
section
variable {X : Cx} {pos p p2 : Pos} {a b c e : Expr} {es rest : List Expr} {ta tb tc te : TEd} {t : TAd}
/-! ### + -/
def rAddD : R2d := fun x y st Q => match x, y with
  | .d (.int i), .d (.int j) => Q (.d (.int (i + j))) st
  | .d (.str i), .d (.str j) => i.length + j.length ≤ sizeLine ∧ Q (.d (.str (i ++ j))) st
  | .d (.tuple xs), .d (.tuple ys) => xs.length + ys.length ≤ sizeLine ∧ Q (.d (.tuple (xs ++ ys))) st
  | .d (.list xs), .d (.list ys) => xs.length + ys.length ≤ sizeLine ∧ Q (.d (.list (xs ++ ys))) st
  | x, y => ∃ xs ys, wlOf x st = some xs ∧ wlOf y st = some ys ∧ xs.length + ys.length ≤ sizeLine ∧ mkL (xs ++ ys) st Q
theorem o_add : OpR X (binaryOp .Add) (upR X.K rAddD) := fun pins s σ H x y v u Q I rx ry ⟨dx, dy, st, hid, Qd, hx, hy, S, w, k⟩ => by
  unfold rAddD at w
  split at w
  · cases int_at hx
    cases int_at hy
    exact op_add pins s σ H _ _ v u Q I rx ry ⟨_, _, rfl, rfl, k.now S (.d (.int _)) w⟩
  · cases str_at hx
    cases str_at hy
    exact op_add_str pins s σ H _ _ v u Q I rx ry ⟨_, _, rfl, rfl, w.1, k.now S (.d (.str _)) w.2⟩
  · rename_i xs ys
    obtain ⟨a, vs, rfl, h1, r1⟩ := tup_at hx
    obtain ⟨b, ws, rfl, h2, r2⟩ := tup_at hy
    have l1 := r1.length
    have l2 := r2.length
    refine op_catA pins s σ H _ _ v u Q I rx ry ⟨a, b, vs, ws, rfl, rfl, h1, h2, by omega, fun z => ?_, fun _ z => ?_, fun _ _ p hp => ?_⟩
    · subst z
      have e : xs = [] := List.length_eq_zero_iff.mp l1.symm
      subst e
      exact k.now S hy w.2
    · subst z
      have e : ys = [] := List.length_eq_zero_iff.mp l2.symm
      subst e
      rw [List.append_nil] at w
      exact k.now S hx w.2
    · exact k.new S hp (.d (.tup (.inl (.inl upd_same)) ((r1.append r2).mono (fr_new hp) S.sr))) w.2
  · rename_i xs ys
    obtain ⟨a, vs, rfl, h1, r1⟩ := wlOf_at hx S rfl
    obtain ⟨b, ws, rfl, h2, r2⟩ := wlOf_at hy S rfl
    have l1 := Paired.length r1
    have l2 := Paired.length r2
    rw [List.length_map] at l1 l2
    refine op_cat pins s σ H _ _ v u Q I rx ry ⟨a, b, vs, ws, rfl, rfl, h1, h2, by omega, fun p hp => mkL_go (.inl ⟨xs ++ ys, ?_, w.2⟩) S hp (r1.append r2) k⟩
    rw [← List.map_append]
    exact pures_map _
  · obtain ⟨xs, ys, e1, e2, hz, q⟩ := w
    obtain ⟨a, vs, rfl, h1, r1⟩ := wlOf_at hx S e1
    obtain ⟨b, ws, rfl, h2, r2⟩ := wlOf_at hy S e2
    have l1 := Paired.length r1
    have l2 := Paired.length r2
    exact op_cat pins s σ H _ _ v u Q I rx ry ⟨a, b, vs, ws, rfl, rfl, h1, h2, by omega, fun p hp => mkL_go q S hp (r1.append r2) k⟩
/-! ### == and != -/
def rEqV : R2d := fun x y st Q => match x, y with
  | .d (.int i), .d (.int j) => Q (.d (.bool (decide (i = j)))) st
  | .d (.str i), .d (.str j) => Q (.d (.bool (decide (i = j)))) st
  | .d i, .d j => SeqAt.shaped i = true ∧ SeqAt.shaped j = true ∧ Q (.d (.bool (PyData.eqv i j))) st
  | _, _ => False
def rNeV : R2d := fun x y st Q => match x, y with
  | .d (.int i), .d (.int j) => Q (.d (.bool (!decide (i = j)))) st
  | .d (.str i), .d (.str j) => Q (.d (.bool (!decide (i = j)))) st
  | .d i, .d j => SeqAt.shaped i = true ∧ SeqAt.shaped j = true ∧ Q (.d (.bool (!PyData.eqv i j))) st
  | _, _ => False
theorem noDict {d : PyData} (h : SeqAt.shaped d = true) : d.hasDict = false := PyData.hasDict_of_canLay d (SeqAt.canLay_of_shaped h)
theorem o_eq (hu : X.A.units + 64 < cLine) : OpR X (compareOp .Eq) (upR X.K rEqV) := fun pins s σ H x y v u Q I rx ry ⟨dx, dy, st, hid, Qd, hx, hy, S, w, k⟩ => by
  unfold rEqV at w
  split at w
  · cases int_at hx
    cases int_at hy
    refine op_eq pins s σ H _ _ v u Q I rx ry ⟨rfl, ?_⟩
    rw [dec_int, show ∀ i j : Int, (i == j) = decide (i = j) from fun i j => by rw [Bool.eq_iff_iff]; simp]
    exact k.now S (.d (.bl _)) w
  · cases str_at hx
    cases str_at hy
    refine op_eq pins s σ H _ _ v u Q I rx ry ⟨rfl, ?_⟩
    rw [dec_str, show ∀ i j : Str, (i == j) = decide (i = j) from fun i j => by rw [Bool.eq_iff_iff]; simp]
    exact k.now S (.d (.bl _)) w
  · cases hx with
    | d hx =>
      cases hy with
      | d hy => exact op_eqD hu pins s σ H _ _ v u Q I rx ry ⟨_, _, hx.dp (noDict w.1), hy.dp (noDict w.2.1), w.1, w.2.1, k.now S (.d (.bl _)) w.2.2⟩
  · exact w.elim
theorem o_ne (hu : X.A.units + 64 < cLine) : OpR X (compareOp .NotEq) (upR X.K rNeV) := fun pins s σ H x y v u Q I rx ry ⟨dx, dy, st, hid, Qd, hx, hy, S, w, k⟩ => by
  unfold rNeV at w
  split at w
  · cases int_at hx
    cases int_at hy
    refine op_ne pins s σ H _ _ v u Q I rx ry ⟨rfl, ?_⟩
    rw [dec_int, show ∀ i j : Int, (i == j) = decide (i = j) from fun i j => by rw [Bool.eq_iff_iff]; simp]
    exact k.now S (.d (.bl _)) w
  · cases str_at hx
    cases str_at hy
    refine op_ne pins s σ H _ _ v u Q I rx ry ⟨rfl, ?_⟩
    rw [dec_str, show ∀ i j : Str, (i == j) = decide (i = j) from fun i j => by rw [Bool.eq_iff_iff]; simp]
    exact k.now S (.d (.bl _)) w
  · cases hx with
    | d hx =>
      cases hy with
      | d hy => exact op_neD hu pins s σ H _ _ v u Q I rx ry ⟨_, _, hx.dp (noDict w.1), hy.dp (noDict w.2.1), w.1, w.2.1, k.now S (.d (.bl _)) w.2.2⟩
  · exact w.elim
/-! ### x[i], x[lo:hi], x[::-1] -/
def rIxD : R2d := fun x y st Q => match y with
  | .d (.int i) => match x with
    | .d (.tuple xs) => ∃ v, atI xs i = some v ∧ Q (.d v) st
    | .d (.str z) => z.length ≤ sizeLine ∧ ∃ n, atI z.cps.toList i = some n ∧ Q (.d (.str ⟨#[n]⟩)) st
    | x => ∃ ds v, lstOf x st = some ds ∧ atI ds i = some v ∧ Q v st
  | _ => False
theorem ix_imp : IxR X (upR X.K rIxD) := by
  intro value slice pins s σ H x y v u Q I rx ry ⟨dx, dy, st, hid, Qd, hx, hy, S, w, k⟩ hs
  unfold rIxD at w
  split at w
  · rename_i i
    cases int_at hy
    split at w
    · obtain ⟨d, e, q⟩ := w
      obtain ⟨a, vs, rfl, h1, r1⟩ := tup_at hx
      obtain ⟨z, h2, r2⟩ := r1.at_ e
      exact ix_tup value slice pins s σ H _ _ v u Q I rx ry ⟨a, vs, i, z, rfl, rfl, h1, h2, k.now S (.d r2) q⟩ hs
    · obtain ⟨hz, n, e, q⟩ := w
      cases str_at hx
      exact ix_str value slice pins s σ H _ _ v u Q I rx ry ⟨_, i, n, rfl, rfl, hz, e, k.now S (.d (.str _)) q⟩ hs
    · obtain ⟨ds, d, e1, e, q⟩ := w
      obtain ⟨a, vs, rfl, h1, r1⟩ := lstOf_at hx S e1
      obtain ⟨z, h2, r2⟩ := r1.at_ e
      exact ix_list value slice pins s σ H _ _ v u Q I rx ry ⟨a, vs, i, z, rfl, rfl, h1, h2, k.now S r2 q⟩ hs
  · exact w.elim
theorem pd_ix (ha : PD X a ta) (hb : PD X b tb) (hs : PlainIx b) : PD X (.Subscript a b pos) (dBin rIxD ta tb) := PE.imp (pe_ix ix_imp ha hb hs) fun _ _ _ => bin_imp
abbrev TOd := Ed → Sto → (Option Int → Sto → Prop) → Prop
abbrev GoO (K : PySem.W.Frag) (st hid : Sto) (H : Hp) (Qd : Option Int → Sto → Prop) (Q : Option Int → Hp → Prop) : Prop := ∀ b H' st', FrX st hid H st' H' → Sx K st' hid H' → Qd b st' → Q b H'
def upO (K : PySem.W.Frag) (t : TOd) : TO := fun σ H Q => ∃ e st hid Qd, RE K (jn st hid) H σ e ∧ Sx K st hid H ∧ t e st Qd ∧ GoO K st hid H Qd Q
abbrev PDO (X : Cx) (e : Option Expr) (t : TOd) : Prop := PO X e (upO X.K t)
theorem PO.imp {X : Cx} {e : Option Expr} {t t' : TO} (h : PO X e t) (i : ∀ σ H Q, t' σ H Q → t σ H Q) : PO X e t' := ⟨fun pins s σ H Q I w => h.run pins s σ H Q I (i σ H Q w)⟩
def dNoP : TOd := fun _ st Q => Q none st
def dPart (t : TEd) : TOd := fun e st Q => t e st fun d st1 => match d with
  | .d (.int i) => Q (some i) st1
  | _ => False
theorem pdo_none : PDO X none dNoP := PO.imp po_none fun σ H Q ⟨e, st, hid, Qd, re, S, h, k⟩ => k none H st (Fr.refl _ _) S h
theorem pdo_some (h : PD X e te) : PDO X (some e) (dPart te) := PO.imp (po_some h) fun σ H Q ⟨e, st, hid, Qd, re, S, h, k⟩ => ⟨e, st, hid, _, re, S, h, fun v H1 d st1 F1 S1 r q => by
  cases r with
  | own a => exact q.elim
  | scr h f => exact q.elim
  | d h =>
    cases h with
    | int i => exact ⟨i, rfl, k (some i) H1 st1 F1 S1 q⟩
    | _ => exact q.elim⟩
/-- the items of xs[lo:hi] -/
def cutP {α : Type} (xs : List α) (lo hi : Option Int) : List α := (xs.drop (HT.sIx xs.length 0 lo)).take (HT.sIx xs.length xs.length hi - HT.sIx xs.length 0 lo)
def rSlD (x : D) (lo hi : Option Int) (st : Sto) (Q : Kd) : Prop := match x with
  | .d (.tuple xs) => Q (.d (.tuple (cutP xs lo hi))) st
  | .d (.list xs) => Q (.d (.list (cutP xs lo hi))) st
  | .scr ns => Q (.d (.list ((cutP ns lo hi).map .int))) st
  | x => ∃ ds, lstOf x st = some ds ∧ mkL (cutP ds lo hi) st Q
theorem cutP_map {α β : Type} (f : α → β) (xs : List α) (lo hi : Option Int) : cutP (xs.map f) lo hi = (cutP xs lo hi).map f := by
  unfold cutP
  rw [List.length_map, List.map_take, List.map_drop]
def dSl (te : TEd) (tl th : TOd) : TEd := fun e st Q => te e st fun x st1 => tl e st1 fun l st2 => th e st2 fun u st3 => rSlD x l u st3 Q
theorem sl_imp : SlR X (fun x lo hi H Q => ∃ dx st hid Qd, DvD X.K (jn st hid) H x dx ∧ Sx X.K st hid H ∧ rSlD dx lo hi st Qd ∧ Go X.K st hid H Qd Q) := by
  intro pins s σ H x v vl vu lo hi sl Q I rx hs pl pu ⟨dx, st, hid, Qd, hx, S, w, k⟩
  unfold rSlD at w
  split at w
  · rename_i xs
    obtain ⟨a, vs, rfl, h1, r1⟩ := tup_at hx
    have l1 := r1.length
    refine sl_tupA pins s σ H _ v vl vu lo hi sl Q I rx hs pl pu ⟨a, vs, rfl, h1, fun z => ?_, fun _ p hp => ?_⟩
    · have e : cutP xs lo hi = xs := by
        unfold cutP
        rw [← l1, z.1, z.2, List.drop_zero, Nat.sub_zero, List.take_of_length_le (Nat.le_of_eq l1.symm)]
      rw [e] at w
      exact k.now S hx w
    · refine k.new S hp (.d (.tup (.inl (.inl upd_same)) ?_)) w
      unfold cutP cutV
      rw [l1]
      exact ((r1.drop _).take _).mono (fr_new hp) S.sr
  · rename_i xs
    obtain ⟨a, vs, rfl, h1, r1⟩ := lstOf_at hx S rfl
    have l1 := Paired.length r1
    refine sl_list pins s σ H _ v vl vu lo hi sl Q I rx hs pl pu ⟨a, vs, rfl, h1, fun p hp => mkL_go (ds := cutP (xs.map D.d) lo hi) (.inl ⟨cutP xs lo hi, by rw [cutP_map]; exact pures_map _, w⟩) S hp ?_ k⟩
    unfold cutP cutV
    rw [l1]
    exact (r1.drop _).take _
  · rename_i ns
    obtain ⟨a, vs, rfl, h1, r1⟩ := lstOf_at hx S rfl
    have l1 := Paired.length r1
    refine sl_list pins s σ H _ v vl vu lo hi sl Q I rx hs pl pu ⟨a, vs, rfl, h1, fun p hp => mkL_go (ds := cutP (ns.map fun n => .d (.int n)) lo hi) (.inl ⟨_, ?_, w⟩) S hp ?_ k⟩
    · rw [cutP_map, show (List.map (fun n => D.d (PyData.int n)) (cutP ns lo hi)) = ((cutP ns lo hi).map PyData.int).map D.d by rw [List.map_map]; rfl]
      exact pures_map _
    · unfold cutP cutV
      rw [l1]
      exact (r1.drop _).take _
  · obtain ⟨ds, e, q⟩ := w
    obtain ⟨a, vs, rfl, h1, r1⟩ := lstOf_at hx S e
    have l1 := Paired.length r1
    refine sl_list pins s σ H _ v vl vu lo hi sl Q I rx hs pl pu ⟨a, vs, rfl, h1, fun p hp => mkL_go q S hp ?_ k⟩
    unfold cutP cutV
    rw [l1]
    exact (r1.drop _).take _
theorem pd_sl {lo hi : Option Expr} {tl th : TOd} (he : PD X e te) (hl : PDO X lo tl) (hu : PDO X hi th) : PD X (.Subscript e (.Slice lo hi none p2) pos) (dSl te tl th) :=
  PE.imp (pe_slice sl_imp he hl hu) fun σ H Q ⟨e, st, hid, Qd, re, S, h, k⟩ => ⟨e, st, hid, _, re, S, h, fun v H1 d st1 F1 S1 r1 h1 => ⟨e, st1, hid, _, re.mono F1 S.sr, S1, h1, fun l H2 st2 F2 S2 h2 =>
    ⟨e, st2, hid, _, re.mono (Fr.trans F1 F2) S.sr, S2, h2, fun u H3 st3 F3 S3 h3 => ⟨d, st3, hid, Qd, r1.mono (Fr.trans F2 F3) S1.sr, S3, h3, k.mono (Fr.trans F1 (Fr.trans F2 F3))⟩⟩⟩⟩
end
/-! ### x[::-1] of a list or a tuple -/
section
variable {prog : Program} {w : World} {A : Around} {E : Value → Shared → Prop} {s : Shared}
theorem back_run (items : Array Value) : ((List.range items.size).filterMap fun (m : Nat) => items[(((items.size : Int) - 1) + (m : Int) * (-1)).toNat]?) = items.toList.reverse := by
  rw [← PySem.W.krv_all items, ← List.filterMap_reverse, ← PySem.W.krv_range, List.filterMap_map]
  have key : ∀ l : List Nat, (∀ m ∈ l, m < items.size) → l.filterMap (fun (m : Nat) => items[(((items.size : Int) - 1) + (m : Int) * (-1)).toNat]?) = l.filterMap ((fun x => items[x]?) ∘ fun k => items.size - 1 - k) := by
    intro l
    induction l with
    | nil => intro _; rfl
    | cons m l ih =>
      intro hl
      have h0 := hl m List.mem_cons_self
      have e : (((items.size : Int) - 1) + (m : Int) * (-1)).toNat = items.size - 1 - m := by omega
      rw [List.filterMap_cons, List.filterMap_cons, ih fun k hk => hl k (List.mem_cons_of_mem _ hk), e]
      rfl
  exact key _ fun m hm => List.mem_range.mp hm
theorem back_adjust (n : Int) : Builtin.Slice.sliceAdjust none none (-1) n = (n - 1, -1) := by
  unfold Builtin.Slice.sliceAdjust
  rfl
theorem back_places (n : Nat) : Builtin.Slice.slicePlaces ((n : Int) - 1) (-1) (-1) = n := by
  unfold Builtin.Slice.slicePlaces
  have e : (-(-1) : Int) = 1 := by decide
  rw [if_neg (by omega), e, Int.ediv_one]
  split <;> omega
theorem back_applied {sl : Addr} {u : Tok} {n : Nat} {Q : Int × Int × Nat → Shared → Prop} (hs : s.heap.IsSliceOf sl .none .none (.int (-1) u)) (h : Q ((n : Int) - 1, -1, n) s) :
    wpAny (model prog w) A (Builtin.Slice.sliceApplied (.ref sl) (pure (n : Int))) Q E s := by
  obtain ⟨os, hos, hcs, hds⟩ := id hs
  unfold Builtin.Slice.sliceApplied Builtin.Slice.sliceFields
  refine wpAny_bind (wpAny_bind (wpAny_field hos hds (x := .none) rfl (wpAny_bind (wpAny_field hos hds (x := .none) rfl (wpAny_bind (wpAny_field hos hds (x := .int (-1) u) rfl (wpAny_pure ?_)))))))
  refine wpAny_bind (HT.slicePart_ (.int (-1) u) ?_)
  show wpAny _ _ (if ((-1 : Int) == 0) = true then _ else _) _ _ s
  rw [if_neg (by decide)]
  refine wpAny_bind (HT.slicePart_ .none (wpAny_bind (HT.slicePart_ .none (wpAny_bind (wpAny_pure ?_)))))
  show wpAny _ _ (match Builtin.Slice.sliceAdjust none none (-1) (n : Int) with | (lo, hi) => pure (lo, (-1 : Int), Builtin.Slice.slicePlaces lo hi (-1))) _ _ s
  rw [back_adjust]
  show wpAny _ _ (pure ((n : Int) - 1, (-1 : Int), Builtin.Slice.slicePlaces ((n : Int) - 1) (-1) (-1))) _ _ s
  rw [back_places]
  exact wpAny_pure h
theorem back_tuple {t sl : Addr} {items : Array Value} {u : Tok} {Q : Value → Shared → Prop} (ht : IsTup s.heap t items) (hs : s.heap.IsSliceOf sl .none .none (.int (-1) u))
    (h : Q (.ref s.heap.objs.size) { s with heap := s.heap.push { cls := .type "tuple", data := .seq items.toList.reverse.toArray } }) (hsz : items.size ≤ sizeLine) :
    wpAny (model prog w) A (getItem (.ref t) (.ref sl)) Q E s := by
  have hok : sizeOk (.seq items.toList.reverse.toArray) := by
    show items.toList.reverse.toArray.size ≤ sizeLine
    rw [List.size_toArray, List.length_reverse, Array.length_toList]
    exact hsz
  obtain ⟨os, hos, hcs, hds⟩ := id hs
  have hTs : s.TypeIs (.ref sl) "slice" := ⟨os, hos, hcs⟩
  unfold getItem
  try with_reducible refine wpAny_holding ?_
  first | refine wpAny_bind (wpAny_pure ?_) | skip
  refine wpAny_bind (wpAny_sequenceKey ht.typeIs (by decide) ?_)
  refine wpAny_bind (wpAny_callSpecial?_slot (name := Str.ofString "__getitem__") ht.typeIs PyProof.Rows.slot_tuple_getitem (wpAny_call_entry PyProof.Rows.slot_tuple_getitem ht.typeIs entry_tuple_getitem ?_ (args_tuple_getitem _ _)))
  show wpAny _ _ (Builtin.Tuple.tupleItemsOf (.ref t) >>= _) _ _ s
  refine wpAny_bind (tupleItemsOf_ ht (wpAny_bind (wpAny_typeOf hTs ?_)))
  rw [if_pos (by decide)]
  refine wpAny_bind (back_applied hs ?_)
  show wpAny _ _ (if ((((items.size : Int) - 1) == 0 && (-1 : Int) == 1) && items.size == items.size) = true then _ else _) _ _ s
  rw [if_neg (by rw [show ((-1 : Int) == 1) = false by decide, Bool.and_false, Bool.false_and]; decide), back_run]
  first
    | exact wpAny_bind (m := Builtin.Tuple.tupleExact _) (wpAny_newObj_type (wpAny_pure ⟨_, rfl, wpAny_pure h⟩) hok)
    | exact wpAny_bind (m := Builtin.Tuple.tupleExact _) (wpAny_newObj_type (wpAny_bind (wpAny_pure (wpAny_pure ⟨_, rfl, wpAny_pure h⟩))) hok)
    | exact wpAny_bind (wpAny_bind (m := Builtin.Tuple.tupleExact _) (wpAny_newObj_type (wpAny_pure (wpAny_pure ⟨_, rfl, wpAny_pure h⟩)) hok))
    | exact wpAny_bind (wpAny_bind (m := Builtin.Tuple.tupleExact _) (wpAny_newObj_type (wpAny_pure ⟨_, rfl, wpAny_pure h⟩) hok))
end
section
variable {X : Cx} {pos p p2 : Pos} {a b c e : Expr} {es rest : List Expr} {ta tb tc te : TEd} {t : TAd}
def dRev (te : TEd) : TEd := fun e st Q => te e st fun x st1 => match x with
  | .d (.tuple xs) => Q (.d (.tuple xs.reverse)) st1
  | x => ∃ ds, lstOf x st1 = some ds ∧ mkL ds.reverse st1 Q
theorem pd_rev {k : Nat} {p1 p2 p3 : Pos} (he : PD X e te) : PD X (.Subscript e (.Slice none none (some (.UnaryOp .USub (.Constant (.int 1) k p1) p2)) p3) pos) (dRev te) := by
  refine ⟨fun pins s σ H Q I ⟨en, st, hid, Qd, re, S, h, kk⟩ => ?_⟩
  refine Subscript_ (thn (he.run pins s σ H (fun x H1 => ∃ d st1, FrX st hid H st1 H1 ∧ Sx X.K st1 hid H1 ∧ DvD X.K (jn st1 hid) H1 x d ∧ (match d with
    | .d (.tuple xs) => Qd (.d (.tuple xs.reverse)) st1
    | x => ∃ ds, lstOf x st1 = some ds ∧ mkL ds.reverse st1 Qd)) I ⟨en, st, hid, _, re, S, h, fun v H' d st' F S r q => ⟨d, st', F, S, r, q⟩⟩) fun v s1 ⟨x, H1, I1, r1, d, st1, F1, S1, r, q1⟩ => ?_)
  have hst : PO X (some (.UnaryOp .USub (.Constant (.int 1) k p1) p2)) (tPart (tUn (rU fun i => .int (-i)) (tC (.int 1)))) := po_some (pe_un un_neg pe_int)
  refine wpAny_Slice (thn (po_none.run pins s1 σ H1 (fun o H2 => o = none ∧ H2 = H1) I1 ⟨rfl, rfl⟩) fun vl s2 ⟨l, H2, I2, pl, el, e2⟩ => ?_)
  subst el e2
  refine thn (po_none.run pins s2 σ H2 (fun o H3 => o = none ∧ H3 = H2) I2 ⟨rfl, rfl⟩) fun vu s3 ⟨u, H3, I3, pu, eu, e3⟩ => ?_
  subst eu e3
  refine thn (hst.run pins s3 σ H3 (fun o H4 => o = some (-1) ∧ H4 = H3) I3 ⟨1, rfl, -1, rfl, rfl, rfl⟩) fun vs s4 ⟨o, H4, I4, ps, eo, e4⟩ => ?_
  subst eo e4
  have I5 : Inv X pins σ H4 { s4 with heap := s4.heap.push { cls := .type "slice", data := .fields #[vl, vu, vs] } } := I4.kept (t' := s4.toks) fun b ob q => Heap.get?_push_of_some _ q
  cases pl
  cases pu
  rcases ps with _ | ⟨_, tk⟩
  split at q1
  · rename_i xs
    obtain ⟨a, ws, rfl, h1, r2⟩ := tup_at r
    cases r1
    obtain ⟨its, rv, ht, hz⟩ := I5.tuple h1
    have hlen := rv.length
    show wpAny (model X.prog X.w) X.A (subscriptTail e (.Slice none none (some (.UnaryOp .USub (.Constant (.int 1) k p1) p2)) p3) (.ref a) (.ref s4.heap.objs.size)) (EP X pins σ Q) X.xe { s4 with heap := s4.heap.push { cls := .type "slice", data := .fields #[.none, .none, .int (-1) tk] } }
    refine tail_any (ops := [.ref a, .ref s4.heap.objs.size]) ht.typeIs (PyProof.Rows.slot_tuple_getitem.lookup) ?_ (by with_unfolding_all rfl)
    refine back_tuple ht (Heap.IsSliceOf.new _ .none .none (.int (-1) tk)) ?_ (by rw [List.size_toArray]; omega)
    have hn := I5.hok.fresh (Nat.le_refl _)
    refine ⟨.ref _, _, I5.laid (t' := s4.toks) (o := .tup ws.reverse) (fun b ob q => Heap.get?_push_of_some _ q) (Nat.le_refl _) ?_, rfl, (Go.mono kk F1).new S1 hn (.d (.tup (.inl (.inl upd_same)) (Dvs.of ?_))) q1⟩
    · exact ⟨by rw [List.length_reverse]; exact hz, _, rv.reverse, IsTup.new _ _⟩
    · rw [List.map_reverse]
      exact ((Dvs.to r2).reverse).mono (fr_new hn) S1.sr
  · obtain ⟨ds, e1, q⟩ := q1
    obtain ⟨a, ws, rfl, h1, r2⟩ := lstOf_at r S1 e1
    cases r1
    obtain ⟨its, rv, ht, hz⟩ := I5.list h1
    have hlen := rv.length
    show wpAny (model X.prog X.w) X.A (subscriptTail e (.Slice none none (some (.UnaryOp .USub (.Constant (.int 1) k p1) p2)) p3) (.ref a) (.ref s4.heap.objs.size)) (EP X pins σ Q) X.xe { s4 with heap := s4.heap.push { cls := .type "slice", data := .fields #[.none, .none, .int (-1) tk] } }
    refine tail_any (ops := [.ref a, .ref s4.heap.objs.size]) ht.isList.typeIs (PySem.slot_list_getitem.lookup) ?_ (by with_unfolding_all rfl)
    refine wpAny_getItem_list_slice ht.isList (Heap.IsSliceOf.new _ .none .none (.int (-1) tk)) .none .none (.int (-1) tk) (by decide) ?_ (by rw [List.size_toArray]; omega)
    rw [PySem.W.krv_pick]
    have hn := I5.hok.fresh (Nat.le_refl _)
    refine ⟨.ref _, _, I5.laid (t' := s4.toks) (o := .lst ws.reverse) (fun b ob q => Heap.get?_push_of_some _ q) (Nat.le_refl _) ?_, rfl, mkL_go q S1 hn r2.reverse (Go.mono kk F1)⟩
    exact ⟨by rw [List.length_reverse]; exact hz, _, 0, rv.reverse, Heap.get?_push_size _ rfl⟩
end
end DL
namespace DL
open PySem PySem.Spec PyProof.Rows L2
/-! ### calls of what is built in -/
/-- 2 ^ 9000 -/
def big9 : Nat := 2 ^ 9000
abbrev RCd := List D → Sto → Kd → Prop
def upC (K : PySem.W.Frag) (r : RCd) : List V → Hp → VK → Prop := fun vs H Q => ∃ ds st hid Qd, DvsD K (jn st hid) H vs ds ∧ Sx K st hid H ∧ r ds st Qd ∧ Go K st hid H Qd Q
def dCall (r : RCd) (t : TAd) : TEd := fun e st Q => t e st fun ds st1 => r ds st1 Q
theorem CallR.imp {X : Cx} {f : Value} {r r' : List V → Hp → VK → Prop} (h : CallR X f r) (i : ∀ xs H Q, r' xs H Q → r xs H Q) : CallR X f r' := fun pins s σ H xs us Q I rx q => h pins s σ H xs us Q I rx (i xs H Q q)
section
variable {X : Cx} {x : Str} {id T : String} {pos p p2 : Pos} {a b c e : Expr} {es rest : List Expr} {ta tb tc te : TEd} {t : TAd} {r : RCd}
theorem call_imp {K : PySem.W.Frag} {σ : L2.St} {H : Hp} {Q : VK} (w : up K (dCall r t) σ H Q) : tCB (upC K r) (upA K t) σ H Q := by
  obtain ⟨e, st, hid, Qd, re, S, h, k⟩ := w
  exact ⟨e, st, hid, _, re, S, h, fun vs H1 ds st1 F1 S1 r1 h1 => ⟨ds, st1, hid, Qd, r1, S1, h1, k.mono F1⟩⟩
theorem pd_callB (hc : CallR X (.builtin id) (upC X.K r)) (hg : Gl X x) (hm : X.mg x = none) (hv : bootBuiltins x = some (.builtin id)) (ha : PDA X (e :: es) t) (hn : x ≠ "__name__" := by decide) (hdb : (x == ("__debug__" : Str)) = false := by decide)
    (he : starEach (e :: es) X.env = (false, eval e X.env) :: starEach es X.env := by rfl) (hpl : (backTo pos (starEach es X.env)).any (·.1) = false := by rfl) : PD X (.Call (.Name x p) (e :: es) [] pos) (dCall r t) :=
  PE.imp (pe_callB hc hg hm hv ha hn hdb he hpl) fun _ _ _ => call_imp
theorem pd_callTy (hc : CallR X (.type T) (upC X.K r)) (hg : Gl X x) (hm : X.mg x = none) (hv : bootBuiltins x = some (.type T)) (ha : PDA X (e :: es) t) (hn : x ≠ "__name__" := by decide) (hdb : (x == ("__debug__" : Str)) = false := by decide)
    (he : starEach (e :: es) X.env = (false, eval e X.env) :: starEach es X.env := by rfl) (hpl : (backTo pos (starEach es X.env)).any (·.1) = false := by rfl) : PD X (.Call (.Name x p) (e :: es) [] pos) (dCall r t) :=
  PE.imp (pe_callTy hc hg hm hv ha hn hdb he hpl) fun _ _ _ => call_imp
theorem pd_callM (hc : CallR X (.builtin id) (upC X.K r)) (hg : Gl X x) (hm : X.mg x = some (.builtin id)) (ha : PDA X (e :: es) t) (hdb : (x == ("__debug__" : Str)) = false := by decide)
    (he : starEach (e :: es) X.env = (false, eval e X.env) :: starEach es X.env := by rfl) (hpl : (backTo pos (starEach es X.env)).any (·.1) = false := by rfl) : PD X (.Call (.Name x p) (e :: es) [] pos) (dCall r t) :=
  PE.imp (pe_callBfun hc hg hm ha hdb he hpl) fun _ _ _ => call_imp
theorem DvsD.one {K : PySem.W.Frag} {st : Sto} {H : Hp} {vs : List V} {d : D} (r : DvsD K st H vs [d]) : ∃ v, vs = [v] ∧ DvD K st H v d := by
  cases r with
  | cons h t =>
    cases t
    exact ⟨_, rfl, h⟩
theorem DvsD.two {K : PySem.W.Frag} {st : Sto} {H : Hp} {vs : List V} {d d' : D} (r : DvsD K st H vs [d, d']) : ∃ v v', vs = [v, v'] ∧ DvD K st H v d ∧ DvD K st H v' d' := by
  cases r with
  | cons h t =>
    cases t with
    | cons h' t' =>
      cases t'
      exact ⟨_, _, rfl, h, h'⟩
/-- of one int -/
def rC1 (C : Int → Prop) (g : Int → PyData) : RCd := fun ds st Q => match ds with
  | [.d (.int i)] => C i ∧ Q (.d (g i)) st
  | _ => False
def rC2 (C : Int → Int → Prop) (g : Int → Int → PyData) : RCd := fun ds st Q => match ds with
  | [.d (.int i), .d (.int j)] => C i j ∧ Q (.d (g i j)) st
  | _ => False
theorem rC1_at {K : PySem.W.Frag} {C : Int → Prop} {g : Int → PyData} {vs : List V} {ds : List D} {st hid : Sto} {H : Hp} {Q : Kd} (r : DvsD K (jn st hid) H vs ds) (h : rC1 C g ds st Q) : ∃ i, vs = [.int i] ∧ C i ∧ Q (.d (g i)) st := by
  unfold rC1 at h
  split at h
  · obtain ⟨v, rfl, r1⟩ := r.one
    cases int_at r1
    exact ⟨_, rfl, h.1, h.2⟩
  · exact h.elim
theorem rC2_at {K : PySem.W.Frag} {C : Int → Int → Prop} {g : Int → Int → PyData} {vs : List V} {ds : List D} {st hid : Sto} {H : Hp} {Q : Kd} (r : DvsD K (jn st hid) H vs ds) (h : rC2 C g ds st Q) : ∃ i j, vs = [.int i, .int j] ∧ C i j ∧ Q (.d (g i j)) st := by
  unfold rC2 at h
  split at h
  · obtain ⟨v, v', rfl, r1, r2⟩ := r.two
    cases int_at r1
    cases int_at r2
    exact ⟨_, _, rfl, h.1, h.2⟩
  · exact h.elim
def cAbs : RCd := rC1 (fun _ => True) fun i => .int (if i < 0 then -i else i)
def cInt : RCd := rC1 (fun _ => True) fun i => .int i
def cStrI : RCd := rC1 (fun i => i.natAbs.log2 < 1920) fun i => .str (toString i)
def cDivmod : RCd := rC2 CDivP fun i j => .tuple [.int (i / j), .int (i % j)]
def cMin : RCd := rC2 (fun _ _ => True) fun i j => .int (if j < i then j else i)
def cMax : RCd := rC2 (fun _ _ => True) fun i j => .int (if j > i then j else i)
def cGcd : RCd := rC2 (fun _ _ => True) fun i j => .int ((Nat.gcd i.natAbs j.natAbs : Nat) : Int)
def cLcm : RCd := rC2 (fun i j => i.natAbs < big9 ∧ j.natAbs < big9) fun i j => .int ((Nat.lcm i.natAbs j.natAbs : Nat) : Int)
theorem c_abs : CallR X (.builtin "abs") (upC X.K cAbs) := CallR.imp call_abs fun vs H Q ⟨ds, st, hid, Qd, r, S, w, k⟩ => by
  obtain ⟨i, rfl, _, q⟩ := rC1_at r w
  exact ⟨i, rfl, k.now S (.d (.int _)) q⟩
theorem c_int : CallR X (.type "int") (upC X.K cInt) := CallR.imp call_int1 fun vs H Q ⟨ds, st, hid, Qd, r, S, w, k⟩ => by
  obtain ⟨i, rfl, _, q⟩ := rC1_at r w
  exact .inl ⟨i, rfl, k.now S (.d (.int _)) q⟩
theorem c_str : CallR X (.type "str") (upC X.K cStrI) := CallR.imp call_str_int fun vs H Q ⟨ds, st, hid, Qd, r, S, w, k⟩ => by
  obtain ⟨i, rfl, h, q⟩ := rC1_at r w
  exact ⟨i, rfl, h, k.now S (.d (.str _)) q⟩
theorem c_min (hc : X.calm = true) : CallR X (.builtin "min") (upC X.K cMin) := CallR.imp (call_min2 hc) fun vs H Q ⟨ds, st, hid, Qd, r, S, w, k⟩ => by
  obtain ⟨i, j, rfl, _, q⟩ := rC2_at r w
  exact ⟨i, j, rfl, k.now S (.d (.int _)) q⟩
theorem c_max (hc : X.calm = true) : CallR X (.builtin "max") (upC X.K cMax) := CallR.imp (call_max2 hc) fun vs H Q ⟨ds, st, hid, Qd, r, S, w, k⟩ => by
  obtain ⟨i, j, rfl, _, q⟩ := rC2_at r w
  exact ⟨i, j, rfl, k.now S (.d (.int _)) q⟩
theorem c_gcd : CallR X (.builtin "math.gcd") (upC X.K cGcd) := CallR.imp cr_gcd fun vs H Q ⟨ds, st, hid, Qd, r, S, w, k⟩ => by
  obtain ⟨i, j, rfl, _, q⟩ := rC2_at r w
  exact ⟨i, j, rfl, k.now S (.d (.int _)) q⟩
theorem c_divmod : CallR X (.builtin "divmod") (upC X.K cDivmod) := CallR.imp call_divmodW fun vs H Q ⟨ds, st, hid, Qd, r, S, w, k⟩ => by
  obtain ⟨i, j, rfl, h, q⟩ := rC2_at r w
  exact ⟨i, j, rfl, h, fun p hp => k.new S hp (.d (.tup (.inl (.inl upd_same)) (.cons (.int _) (.cons (.int _) .nil)))) q⟩
theorem big_log {n : Nat} (h : n < big9) : ¬ n.log2 / 30 + 1 > 450 := by
  unfold big9 at h
  have := PySem.W.mg_log (k := 8999) h
  omega
theorem c_lcm : CallR X (.builtin "math.lcm") (upC X.K cLcm) := fun pins s σ H vs us Q I rx ⟨ds, st, hid, Qd, r, S, w, k⟩ => by
  obtain ⟨i, j, rfl, ⟨hi, hj⟩, q⟩ := rC2_at r w
  obtain ⟨t, u, rfl⟩ := Vals.int2 rx
  have one : Nat.lcm 1 i.natAbs = i.natAbs := PySem.W.mc_lcm_one _
  have p1 : (1 : Nat) < big9 := by
    unfold big9
    exact Nat.one_lt_two_pow (by decide)
  have hm : max 1 i.natAbs < big9 := Nat.max_lt.mpr ⟨p1, hi⟩
  have hm2 : max i.natAbs j.natAbs < big9 := Nat.max_lt.mpr ⟨hi, hj⟩
  have hl : (i.natAbs.lcm j.natAbs).log2 < bitsLine := PySem.W.mc_size (k := 300) (Nat.le_trans (PySem.W.mc_lcm_le _ _) (by
    have h1 : i.natAbs * j.natAbs ≤ big9 * big9 := Nat.mul_le_mul (Nat.le_of_lt hi) (Nat.le_of_lt hj)
    unfold big9 at h1
    rw [← Nat.pow_add] at h1
    exact Nat.le_trans h1 (Nat.pow_le_pow_right (by decide) (by decide)))) (by decide)
  have g := PySem.W.mg_run_lcm i t j u (big_log hm) (big_log hm2) (by rw [one]; exact hl)
  rw [one] at g
  exact PySem.call_function_meets PySem.W.MGF.kind_lcm PySem.W.MGF.plain_lcm PySem.W.MGF.entry_lcm (PySem.W.MGF.args_lcm _ _) g.meets ⟨.int _, H, I.tok _, ⟨_, rfl⟩, k.now S (.d (.int _)) q⟩
def cLen : RCd := fun ds st Q => match ds with
  | [.d (.tuple xs)] => Q (.d (.int xs.length)) st
  | [.d (.str z)] => z.length ≤ sizeLine ∧ Q (.d (.int z.length)) st
  | [x] => ∃ ds, lstOf x st = some ds ∧ Q (.d (.int ds.length)) st
  | _ => False
theorem c_len : CallR X (.builtin "len") (upC X.K cLen) := fun pins s σ H vs us Q I rx ⟨ds, st, hid, Qd, r, S, w, k⟩ => by
  unfold cLen at w
  split at w
  · obtain ⟨v, rfl, r1⟩ := r.one
    obtain ⟨a, ws, rfl, h1, r2⟩ := tup_at r1
    rw [← r2.length] at w
    exact call_len_seq pins s σ H _ us Q I rx ⟨a, ws, rfl, .inr h1, k.now S (.d (.int _)) w⟩
  · obtain ⟨v, rfl, r1⟩ := r.one
    cases str_at r1
    exact call_len_str pins s σ H _ us Q I rx ⟨_, rfl, w.1, k.now S (.d (.int _)) w.2⟩
  · obtain ⟨v, rfl, r1⟩ := r.one
    obtain ⟨ds, e, q⟩ := w
    obtain ⟨a, ws, rfl, h1, r2⟩ := lstOf_at r1 S e
    rw [← Paired.length r2] at q
    exact call_len_seq pins s σ H _ us Q I rx ⟨a, ws, rfl, .inl h1, k.now S (.d (.int _)) q⟩
  · exact w.elim
theorem bools_at {K : PySem.W.Frag} {st : Sto} {H : Hp} : ∀ {vs : List V} {bs : List Bool}, DvsD K st H vs (bs.map fun b => .d (.bool b)) → vs = bs.map V.bl
  | [], [], _ => rfl
  | _ :: _, b :: bs, .cons (.d h) t => by
    cases h
    rw [bools_at t]
    rfl
def cAll : RCd := fun ds st Q => match ds with
  | [x] => ∃ bs : List Bool, lstOf x st = some (bs.map fun b => .d (.bool b)) ∧ Q (.d (.bool (bs.all _root_.id))) st
  | _ => False
theorem c_all (hc : X.calm = true) : CallR X (.builtin "all") (upC X.K cAll) := CallR.imp (cr_all hc) fun vs H Q ⟨ds, st, hid, Qd, r, S, w, k⟩ => by
  unfold cAll at w
  split at w
  · obtain ⟨v, rfl, r1⟩ := r.one
    obtain ⟨bs, e, q⟩ := w
    obtain ⟨a, ws, rfl, h1, r2⟩ := lstOf_at r1 S e
    rw [bools_at r2] at h1
    exact ⟨a, bs, rfl, h1, k.now S (.d (.bl _)) q⟩
  · exact w.elim
/-- list(x) -/
def cList : RCd := fun ds st Q => match ds with
  | [.d (.tuple xs)] => mkL (xs.map D.d) st Q
  | [x] => ∃ ds, lstOf x st = some ds ∧ mkL ds st Q
  | _ => False
theorem c_list : CallR X (.type "list") (upC X.K cList) := CallR.imp call_list_of fun vs H Q ⟨ds, st, hid, Qd, r, S, w, k⟩ => by
  unfold cList at w
  split at w
  · obtain ⟨v, rfl, r1⟩ := r.one
    obtain ⟨a, ws, rfl, h1, r2⟩ := tup_at r1
    exact ⟨a, ws, rfl, .inr h1, fun l hl => mkL_go w S hl (Dvs.to r2) k⟩
  · obtain ⟨v, rfl, r1⟩ := r.one
    obtain ⟨ds, e, q⟩ := w
    obtain ⟨a, ws, rfl, h1, r2⟩ := lstOf_at r1 S e
    exact ⟨a, ws, rfl, .inl h1, fun l hl => mkL_go q S hl r2 k⟩
  · exact w.elim
/-- .. as a value -/
def cListV : RCd := fun ds st Q => match ds with
  | [.d (.tuple xs)] => Q (.d (.list xs)) st
  | [.d (.list xs)] => Q (.d (.list xs)) st
  | [x] => ∃ xs : List PyData, lstOf x st = some (xs.map D.d) ∧ Q (.d (.list xs)) st
  | _ => False
theorem c_listV : CallR X (.type "list") (upC X.K cListV) := CallR.imp c_list fun vs H Q ⟨ds, st, hid, Qd, r, S, w, k⟩ => by
  refine ⟨ds, st, hid, Qd, r, S, ?_, k⟩
  unfold cListV at w
  split at w
  · exact .inl ⟨_, pures_map _, w⟩
  · exact ⟨_, rfl, .inl ⟨_, pures_map _, w⟩⟩
  · rename_i x n1 n2
    obtain ⟨xs, e, q⟩ := w
    unfold cList
    split
    · rename_i h
      cases h
      exact absurd rfl (n1 _)
    · rename_i h
      cases h
      exact ⟨_, e, .inl ⟨_, pures_map _, q⟩⟩
    · rename_i n4
      exact absurd rfl (n4 x)
  · exact w.elim
/-- tuple(x) -/
def cTuple : RCd := fun ds st Q => match ds with
  | [.d (.tuple xs)] => Q (.d (.tuple xs)) st
  | [x] => ∃ xs : List PyData, lstOf x st = some (xs.map D.d) ∧ Q (.d (.tuple xs)) st
  | _ => False
theorem c_tuple : CallR X (.type "tuple") (upC X.K cTuple) := CallR.imp call_tuple_of fun vs H Q ⟨ds, st, hid, Qd, r, S, w, k⟩ => by
  unfold cTuple at w
  split at w
  · obtain ⟨v, rfl, r1⟩ := r.one
    obtain ⟨a, ws, rfl, h1, r2⟩ := tup_at r1
    exact ⟨a, ws, rfl, .inr ⟨h1, k.now S r1 w⟩⟩
  · obtain ⟨v, rfl, r1⟩ := r.one
    obtain ⟨xs, e, q⟩ := w
    obtain ⟨a, ws, rfl, h1, r2⟩ := lstOf_at r1 S e
    exact ⟨a, ws, rfl, .inl ⟨h1, fun l hl => k.new S hl (.d (.tup (.inl (.inl upd_same)) ((Dvs.of r2).mono (fr_new hl) S.sr))) q⟩⟩
  · exact w.elim
/-- repr(x) -/
def cRepr : RCd := fun ds st Q => match ds with
  | [.d x] => x.hasDict = false ∧ x.showable = true ∧ x.shown.length ≤ sizeLine ∧ x.depth ≤ 64 ∧ Q (.d (.str x.shown)) st
  | _ => False
theorem c_repr (hG : X.A.guards = some []) (hu : X.A.units + 65 < cLine) : CallR X (.builtin "repr") (upC X.K cRepr) := fun pins s σ H vs us Q I rx ⟨ds, st, hid, Qd, r, S, w, k⟩ => by
  unfold cRepr at w
  split at w
  · rename_i x
    obtain ⟨v, rfl, r1⟩ := r.one
    obtain ⟨h1, h2, h3, h4, q⟩ := w
    cases r1 with
    | d r1 =>
      obtain ⟨u, rfl, ru⟩ := vals1 rx
      have fin : ∀ {h' : Heap} {uu : Tok} {tk : Nat}, (∀ b o, s.heap.get? b = some o → h'.get? b = some o) → EP X pins σ Q (.str x.shown uu) { s with heap := h', toks := tk } := fun {h' uu tk} kp => ⟨.str _, H, I.kept kp, ⟨_, rfl⟩, k.now S (.d (.str _)) q⟩
      cases r1 with
      | non =>
        cases ru
        exact PySem.P.repr_of_none (fin fun _ _ e => e)
      | bl b =>
        cases ru
        have := fin (h' := s.heap) (uu := s.toks) (tk := s.toks + 1) fun _ _ e => e
        rw [PyData.shown_bool] at this
        exact PySem.P.repr_of_bool this
      | int i =>
        obtain ⟨t, rfl⟩ := ru
        have := fin (h' := s.heap) (uu := s.toks) (tk := s.toks + 1) fun _ _ e => e
        rw [PyData.shown_int] at this
        exact PySem.P.repr_of_int (by simpa [PyData.showable] using h2) this
      | str i =>
        obtain ⟨t, rfl⟩ := ru
        have := fin (h' := s.heap) (uu := s.toks) (tk := s.toks + 1) fun _ _ e => e
        rw [PyData.shown_str] at this h3
        exact PySem.P.repr_of_str this h3
      | lst h f rr =>
        cases ru
        obtain ⟨as, rd⟩ := Dp.reads I _ _ _ ((Dv.lst h f rr).dp h1) rfl
        exact repr_of_reads' rd h2 (fun z => by rw [h1] at z; cases z) hG (by omega) (fun _ _ e => e) (fun h' u tk kp => fin kp) h3
      | tup h rr =>
        cases ru
        obtain ⟨as, rd⟩ := Dp.reads I _ _ _ ((Dv.tup h rr).dp h1) rfl
        exact repr_of_reads' rd h2 (fun z => by rw [h1] at z; cases z) hG (by omega) (fun _ _ e => e) (fun h' u tk kp => fin kp) h3
      | dic h f rr qq =>
        cases h1
  · exact w.elim
/-! ### isinstance(x, T) -/
def tyD : D → String
  | .d .none => "NoneType"
  | .d (.bool _) => "bool"
  | .d (.int _) => "int"
  | .d (.str _) => "str"
  | .d (.tuple _) => "tuple"
  | .d (.dict _) => "dict"
  | _ => "list"
def isT (T : String) (d : D) : Bool := (kitB (tyD d) T).getD false
theorem ty_at {K : PySem.W.Frag} {st : Sto} {H : Hp} {v : V} {d : D} (r : DvD K st H v d) (S : SR K st H) (ho : ∀ a, d = .own a → (st a).isSome = true) : TyX K H v (.type (tyD d)) := by
  cases r with
  | own a =>
    obtain ⟨ds, e⟩ := Option.isSome_iff_exists.mp (ho a rfl)
    obtain ⟨xs, h, _⟩ := S a ds e
    exact .base (.lst h)
  | scr h f =>
    rcases h with (h | ⟨o, h⟩) | ⟨o, its, n, h, hc, _⟩
    · exact .base (.lst h)
    · exact .base (.frz h)
    · exact .kList h hc
  | d h =>
    cases h with
    | non => exact .base .non
    | bl b => exact .base (.bl b)
    | int i => exact .base (.int i)
    | str i => exact .base (.str i)
    | lst h f r => exact .base (.lst h)
    | dic h f r q => exact .base (.dK h)
    | tup h r =>
      rcases h with (h | ⟨o, h⟩) | ⟨o, its, n, h, hc, _⟩
      · exact .base (.tup h)
      · exact .fTuple h
      · exact .kTuple h hc
def dIs (T : String) (te : TEd) : TEd := fun e st Q => te e st fun d st1 => (∀ a, d = .own a → (st1 a).isSome = true) ∧ (kitB (tyD d) T).isSome = true ∧ Q (.d (.bool (isT T d))) st1
theorem pd_is {y : Str} (hg : Gl X "isinstance") (hm : X.mg "isinstance" = none) (hg2 : Gl X y) (hm2 : X.mg y = none) (hv2 : bootBuiltins y = some (.type T)) (he : PD X e te) (hv : bootBuiltins "isinstance" = some (.builtin "isinstance") := by rfl)
    (hn2 : y ≠ "__name__" := by decide) (hd2 : (y == ("__debug__" : Str)) = false := by decide)
    (h1 : starEach [.Name y p2] X.env = [(false, eval (.Name y p2) X.env)] := by rfl) (hs : starEach [e, .Name y p2] X.env = (false, eval e X.env) :: starEach [.Name y p2] X.env := by rfl) (hpl : (backTo pos (starEach [.Name y p2] X.env)).any (·.1) = false := by rfl) :
    PD X (.Call (.Name "isinstance" p) [e, .Name y p2] [] pos) (dIs T te) :=
  PE.imp (pe_callB call_isi hg hm hv (pa_cons he (pa_cons (pe_bltn (v := .ty T) hg2 hm2 hv2 rfl hn2 hd2) pa_nil h1) hs) (by decide) (by decide) hs hpl) fun σ H Q ⟨e, st, hid, Qd, re, S, h, k⟩ => ⟨e, st, hid, _, re, S, h, fun v H1 d st1 F1 S1 r ⟨h0, h1, q⟩ => by
    obtain ⟨b, hb⟩ := Option.isSome_iff_exists.mp h1
    have eb : isT T d = b := by
      unfold isT
      rw [hb]
      rfl
    rw [eb] at q
    exact ⟨v, .ty T, .type (tyD d), .type T, b, rfl, .ty T, ty_at r S1.sr (fun a z => by
      obtain ⟨ds, e⟩ := Option.isSome_iff_exists.mp (h0 a z)
      rw [jn_some e]
      rfl), kit_ty hb, (Go.mono k F1).now S1 (.d (.bl b)) q⟩⟩
end
end DL
namespace DL
open PySem PySem.Spec PyProof.Rows L2
/-! ### what is walked -/
structure ItD where
  xs : List D
  dep : Option (Addr × List D) := none
def ItD.at (it : ItD) (st : Sto) : Prop := ∀ a ds, it.dep = some (a, ds) → st a = some ds
/-- J walks just these, whatever is laid meanwhile -/
def ItOk (K : PySem.W.Frag) (F0 : Sto) (H0 : Hp) (J : It) (it : ItD) : Prop := ∀ (i : Nat) (F : Sto) (H : Hp), Fr F0 H0 F H → SR K F H → it.at F →
  (∀ d, it.xs[i]? = some d → J.go i H ∧ ∀ x H', J.yld i H x H' → Fr F H F H' ∧ SR K F H' ∧ DvD K F H' x d) ∧ (it.xs.length ≤ i → J.stop i H)
abbrev TId := Ed → Sto → (ItD → Sto → Prop) → Prop
def upI (K : PySem.W.Frag) (t : TId) : TI := fun σ H R => ∃ e st hid Rd, RE K (jn st hid) H σ e ∧ Sx K st hid H ∧ t e st Rd ∧ ∀ J H' it st', FrX st hid H st' H' → Sx K st' hid H' → ItOk K (jn st' hid) H' J it → it.at st' → Rd it st' → R J H'
abbrev PDI (X : Cx) (tg iter : Expr) (t : TId) : Prop := PI X tg iter (upI X.K t)
theorem PI.imp {X : Cx} {tg iter : Expr} {t t' : TI} (h : PI X tg iter t) (i : ∀ σ H Q, t' σ H Q → t σ H Q) : PI X tg iter t' := ⟨fun pins s σ H Q I w => h.run pins s σ H Q I (i σ H Q w)⟩
def dIter (te : TEd) : TId := fun e st R => te e st fun d st1 => match d with
  | .d (.tuple xs) => R ⟨xs.map D.d, none⟩ st1
  | .d (.list xs) => R ⟨xs.map D.d, none⟩ st1
  | .own a => ∃ ds, st1 a = some ds ∧ R ⟨ds, some (a, ds)⟩ st1
  | .scr ns => R ⟨ns.map fun n => .d (.int n), none⟩ st1
  | _ => False
section
variable {K : PySem.W.Frag} {F0 : Sto} {H0 : Hp} {a : Addr}
theorem Fr.same {F : Sto} {H : Hp} {H' : Hp} (e : H' = H) : Fr F H F H' := by
  subst e
  exact Fr.refl _ _
theorem itok_tup {vs : List V} {xs : List PyData} (h : SqT K H0 a vs) (r : Dvs K F0 H0 vs xs) (S0 : SR K F0 H0) : ItOk K F0 H0 (Itt K a) ⟨xs.map D.d, none⟩ := fun i F H fr S _ => by
  have h' := sqT_mono fr S0 h
  have r' := r.mono fr S0
  refine ⟨fun d e => ?_, fun z => ⟨vs, h', by
    have z' : (xs.map D.d).length ≤ i := z
    rw [List.length_map] at z'
    rw [r'.length]
    exact z'⟩⟩
  obtain ⟨v, e1, r1⟩ := (Dvs.to r').get e
  refine ⟨⟨vs, v, h', e1⟩, fun x H' ⟨eh, y⟩ => ?_⟩
  subst eh
  have e2 := y vs h'
  rw [e1] at e2
  cases e2
  exact ⟨Fr.refl _ _, S, r1⟩
theorem itok_lst {vs : List V} {xs : List PyData} (h : H0 a = some (.lst vs)) (f : F0 a = none) (r : Dvs K F0 H0 vs xs) (S0 : SR K F0 H0) : ItOk K F0 H0 (Itl K a) ⟨xs.map D.d, none⟩ := fun i F H fr S _ => by
  have h' : SqL K H a vs := .inl (.inl (fr a _ h f).1)
  have r' := r.mono fr S0
  refine ⟨fun d e => ?_, fun z => ⟨vs, h', by
    have z' : (xs.map D.d).length ≤ i := z
    rw [List.length_map] at z'
    rw [r'.length]
    exact z'⟩⟩
  obtain ⟨v, e1, r1⟩ := (Dvs.to r').get e
  refine ⟨⟨vs, v, h', e1⟩, fun x H' ⟨eh, y⟩ => ?_⟩
  subst eh
  have e2 := y vs h'
  rw [e1] at e2
  cases e2
  exact ⟨Fr.refl _ _, S, r1⟩
theorem itok_own {ds : List D} : ItOk K F0 H0 (Itl K a) ⟨ds, some (a, ds)⟩ := fun i F H fr S at_ => by
  obtain ⟨vs, h, r⟩ := S a ds (at_ a ds rfl)
  have h' : SqL K H a vs := .inl (.inl h)
  refine ⟨fun d e => ?_, fun z => ⟨vs, h', by
    rw [Paired.length r]
    exact z⟩⟩
  obtain ⟨v, e1, r1⟩ := r.get e
  refine ⟨⟨vs, v, h', e1⟩, fun x H' ⟨eh, y⟩ => ?_⟩
  subst eh
  have e2 := y vs h'
  rw [e1] at e2
  cases e2
  exact ⟨Fr.refl _ _, S, r1⟩
theorem itok_scr {ns : List Int} (h : DvD K F0 H0 (.ref a) (.scr ns)) (S0 : SR K F0 H0) : ItOk K F0 H0 (Itl K a) ⟨ns.map fun n => .d (.int n), none⟩ := fun i F H fr S _ => by
  cases h.mono fr S0 with
  | scr h' f =>
    refine ⟨fun d e => ?_, fun z => ⟨_, h', by
      have z' : (ns.map fun n => D.d (.int n)).length ≤ i := z
      rw [List.length_map] at z' ⊢
      exact z'⟩⟩
    obtain ⟨v, e1, r1⟩ := (ints_to (K := K) (st := F) (H := H) ns).get e
    refine ⟨⟨_, v, h', e1⟩, fun x H' ⟨eh, y⟩ => ?_⟩
    subst eh
    have e2 := y _ h'
    rw [e1] at e2
    cases e2
    exact ⟨Fr.refl _ _, S, r1⟩
theorem itok_rng {lo : Int} {n : Nat} : ItOk K F0 H0 (Itr lo n) ⟨(List.range n).map fun (i : Nat) => .d (.int (lo + i)), none⟩ := fun i F H fr S _ => by
  refine ⟨fun d e => ?_, fun z => by
    have z' : ((List.range n).map fun (i : Nat) => D.d (.int (lo + i))).length ≤ i := z
    rw [List.length_map, List.length_range] at z'
    exact z'⟩
  have e' : ((List.range n).map fun (i : Nat) => D.d (.int (lo + i)))[i]? = some d := e
  rw [List.getElem?_map] at e'
  cases q : (List.range n)[i]? with
  | none =>
    rw [q] at e'
    cases e'
  | some j =>
    rw [q] at e'
    have hi : i < n := by
      have := (List.getElem?_eq_some_iff.mp q).1
      rw [List.length_range] at this
      exact this
    rw [List.getElem?_range hi] at q
    cases q
    cases e'
    exact ⟨hi, fun x H' ⟨eh, ex⟩ => by
      subst eh
      subst ex
      exact ⟨Fr.refl _ _, S, .d (.int _)⟩⟩
end
section
variable {X : Cx} {tg e : Expr} {te : TEd}
theorem pdi_seq (he : PD X e te) : PDI X tg e (dIter te) := by
  refine ⟨fun pins s σ H R I ⟨en, st, hid, Rd, re, S, h, k⟩ => ?_⟩
  refine thn (he.run pins s σ H (fun x H1 => ∃ a, x = .ref a ∧ ((∃ xs, SqL X.K H1 a xs) ∧ R (Itl X.K a) H1 ∨ (∃ xs, SqT X.K H1 a xs) ∧ R (Itt X.K a) H1)) I ⟨en, st, hid, _, re, S, h, fun v H1 d st1 F1 S1 r q => ?_⟩) fun v s1 ⟨x, H1, I1, r1, a, ex, q1⟩ => ?_
  · split at q
    · obtain ⟨a, vs, rfl, h1, r2⟩ := tup_at r
      exact ⟨a, rfl, .inr ⟨⟨vs, h1⟩, k _ H1 _ st1 F1 S1 (itok_tup h1 r2 S1.sr) (fun a ds z => nomatch z) q⟩⟩
    · cases r with
      | d r =>
        cases r with
        | lst h f r => exact ⟨_, rfl, .inl ⟨⟨_, .inl (.inl h)⟩, k _ H1 _ st1 F1 S1 (itok_lst h f r S1.sr) (fun a ds z => nomatch z) q⟩⟩
    · cases r with
      | own _ =>
        obtain ⟨ds, e1, q⟩ := q
        obtain ⟨vs, h1, r2⟩ := S1.at_ e1
        exact ⟨_, rfl, .inl ⟨⟨vs, .inl (.inl h1)⟩, k _ H1 _ st1 F1 S1 itok_own (fun b es z => by
          cases z
          exact e1) q⟩⟩
    · cases r with
      | scr h f => exact ⟨_, rfl, .inl ⟨⟨_, h⟩, k _ H1 _ st1 F1 S1 (itok_scr (.scr h f) S1.sr) (fun a ds z => nomatch z) q⟩⟩
    · exact q.elim
  · subst ex
    cases r1
    rcases q1 with ⟨⟨xs, hq⟩, q⟩ | ⟨⟨xs, hq⟩, q⟩
    · obtain ⟨its, rv, p, hz⟩ := I1.list hq
      refine wpAny_pyIter_list p.isList ⟨_, [s1.heap.objs.size], _, _, H1, rfl, I1.kept (t' := s1.toks) fun b o e => Heap.get?_push_of_some _ e, turn_list a _, ⟨_, Heap.get?_push_size _ rfl, rfl, rfl⟩, fun b hb => ?_, q⟩
      cases (show b = s1.heap.objs.size by simpa using hb)
      exact I1.fpOk (Nat.le_refl _) (I1.hok.fresh (Nat.le_refl _))
    · obtain ⟨its, rv, p, hz⟩ := I1.tuple hq
      refine wpAny_pyIter_tuple (show s1.heap.IsTuple a its.toArray from p) ⟨_, [s1.heap.objs.size], _, _, H1, rfl, I1.kept (t' := s1.toks) fun b o e => Heap.get?_push_of_some _ e, turn_tuple a _, ⟨_, Heap.get?_push_size _ rfl, rfl, rfl⟩, fun b hb => ?_, q⟩
      cases (show b = s1.heap.objs.size by simpa using hb)
      exact I1.fpOk (Nat.le_refl _) (I1.hok.fresh (Nat.le_refl _))
/-- range(n), range(a, b) -/
def dRng1 (t : TAd) : TId := fun e st R => t e st fun ds st1 => match ds with
  | [.d (.int j)] => -(2 ^ 62) ≤ j ∧ j < 2 ^ 62 ∧ R ⟨(List.range j.toNat).map fun (i : Nat) => .d (.int (0 + i)), none⟩ st1
  | _ => False
def dRng2 (t : TAd) : TId := fun e st R => t e st fun ds st1 => match ds with
  | [.d (.int i), .d (.int j)] => (-(2 ^ 62) ≤ i ∧ i < 2 ^ 62 ∧ -(2 ^ 62) ≤ j ∧ j < 2 ^ 62) ∧ R ⟨(List.range (j - i).toNat).map fun (m : Nat) => .d (.int (i + m)), none⟩ st1
  | _ => False
theorem pdi_rng1 {a : Expr} {t : TAd} {p pos : Pos} (hg : Gl X "range") (hm : X.mg "range" = none) (ha : PDA X [a] t) (hs : starEach [a] X.env = [(false, eval a X.env)] := by rfl) : PDI X tg (.Call (.Name "range" p) [a] [] pos) (dRng1 t) :=
  PI.imp (pi_range1 hg hm ha hs) fun σ H R ⟨e, st, hid, Rd, re, S, h, k⟩ => ⟨e, st, hid, _, re, S, h, fun vs H1 ds st1 F1 S1 r q => by
    split at q
    · obtain ⟨v, rfl, r1⟩ := DvsD.one r
      cases int_at r1
      exact ⟨_, rfl, q.1, q.2.1, k _ H1 _ st1 F1 S1 itok_rng (fun a ds z => nomatch z) q.2.2⟩
    · exact q.elim⟩
theorem pdi_rng2 {a b : Expr} {t : TAd} {p pos : Pos} (hg : Gl X "range") (hm : X.mg "range" = none) (ha : PDA X [a, b] t) (hs : starEach [a, b] X.env = [(false, eval a X.env), (false, eval b X.env)] := by rfl) (hs2 : starEach [b] X.env = [(false, eval b X.env)] := by rfl) : PDI X tg (.Call (.Name "range" p) [a, b] [] pos) (dRng2 t) :=
  PI.imp (pi_range2 hg hm ha hs hs2) fun σ H R ⟨e, st, hid, Rd, re, S, h, k⟩ => ⟨e, st, hid, _, re, S, h, fun vs H1 ds st1 F1 S1 r q => by
    split at q
    · obtain ⟨v, v', rfl, r1, r2⟩ := DvsD.two r
      cases int_at r1
      cases int_at r2
      exact ⟨_, _, rfl, q.1, k _ H1 _ st1 F1 S1 itok_rng (fun a ds z => nomatch z) q.2⟩
    · exact q.elim⟩
end
/-! ### list comprehensions, one name -/
section
variable {K : PySem.W.Frag} {st hid : Sto} {H : Hp} {p : Addr} {ds : List D}
theorem jn_swap (h : st p = none) : jn st (put hid p ds) = jn (put st p ds) hid := by
  funext b
  by_cases e : b = p
  · subst e
    rw [jn_none h, put_same, jn_some put_same]
  · unfold jn
    rw [put_ne e, put_ne e]
theorem Sx.hide (S : Sx K (put st p ds) hid H) (h : st p = none) : Sx K st (put hid p ds) H := by
  refine ⟨fun a n => ?_, by rw [jn_swap h]; exact S.sr⟩
  by_cases e : a = p
  · rw [e]
    exact h
  · rw [put_ne e] at n
    have := S.dj a n
    rw [put_ne e] at this
    exact this
theorem Sx.shown (S : Sx K st (put hid p ds) H) (h : hid p = none) : Sx K (put st p ds) hid H ∧ st p = none := by
  have hp : st p = none := S.dj p (by rw [put_same]; exact fun z => nomatch z)
  refine ⟨⟨fun a n => ?_, by rw [← jn_swap hp]; exact S.sr⟩, hp⟩
  by_cases e : a = p
  · rw [e] at n
    exact absurd h n
  · rw [put_ne e]
    exact S.dj a (by rw [put_ne e]; exact n)
end
def dYes : TTd := fun _ st Q => Q true st
abbrev PDTs (X : Cx) (ifs : List Expr) (t : TTd) : Prop := PTs X ifs (upT X.K t)
theorem PTs.imp {X : Cx} {e : List Expr} {t t' : TT} (h : PTs X e t) (i : ∀ σ H Q, t' σ H Q → t σ H Q) : PTs X e t' := ⟨fun pins s σ H Q I w => h.run pins s σ H Q I (i σ H Q w)⟩
theorem pdts_nil {X : Cx} : PDTs X [] dYes := PTs.imp pts_nil fun σ H Q ⟨e, st, hid, Qd, re, S, h, k⟩ => k true H st (Fr.refl _ _) S h
theorem pdts_one {X : Cx} {c : Expr} {t : TTd} (h : PDT X c t) : PDTs X [c] t := pts_one h
def mkV (ds : List D) (st : Sto) (Q : Kd) : Prop := ∃ xs, pures ds = some xs ∧ Q (.d (.list xs)) st
def dLcM (M : List D → Sto → Kd → Prop) (ti : TId) (i : Nat) (tt : TTd) (te : TEd) : TEd := fun e st Q => ti e st fun it st1 => ∃ W : Nat → List D → Sto → Prop, W 0 [] st1 ∧ ∀ j acc st2, W j acc st2 → it.at st2 ∧ (it.xs.length ≤ j → M acc st2 Q) ∧
  ∀ d, it.xs[j]? = some d → tt (e.set i (some d)) st2 fun b st3 => if b = true then te (e.set i (some d)) st3 fun y st4 => acc.length < sizeLine ∧ W (j + 1) (acc ++ [y]) st4 else W (j + 1) acc st3
abbrev dLc := dLcM mkL
abbrev dLcV := dLcM mkV
theorem set_none_set {α : Type} {σ : List (Option α)} {i : Nat} {x : Option α} : (σ.set i none).set i x = σ.set i x := List.set_set ..
theorem pd_lcM {X : Cx} {M : List D → Sto → Kd → Prop} (hM : ∀ ds st Q, M ds st Q → mkL ds st Q) {elt iter : Expr} {ifs : List Expr} {scope : Scope} {y : Str} {i : Nat} {py pos : Pos} {ti : TId} {tt : TTd} {te : TEd} (hc : X.calm = true) (hN : X.N.Nodup) (hi : PDI X (.Name y py) iter ti) (ok : BlkOk X.N X.env.scope scope [(y, i)])
    (hg : ∀ (s : Shared) (H : Hp) (C : Addr) (cl : List (Str × Addr)) (fp : List Addr), PG (X.blk s H scope (compEnvC scope cl C X.env) fp) (.Name y py) (gName i))
    (ht : ∀ (s : Shared) (H : Hp) (C : Addr) (cl : List (Str × Addr)) (fp : List Addr), PDTs (X.blk s H scope (compEnvC scope cl C X.env) fp) ifs tt)
    (he : ∀ (s : Shared) (H : Hp) (C : Addr) (cl : List (Str × Addr)) (fp : List Addr), PD (X.blk s H scope (compEnvC scope cl C X.env) fp) elt te) (hs : ∀ x, foldedSetIterable iter X.env x = pure x := by intro _; rfl) :
    PD X (.ListComp elt [⟨.Name y py, iter, ifs, 0⟩] scope pos) (dLcM M ti i tt te) :=
  PE.imp (pe_lc (own := [(y, i)]) (wi := upI X.K ti) (g := gName i) (tt := upT X.K tt) (te := up X.K te) hc hN hi ok hg ht he hs) fun σ H Q ⟨e, st, hid, Qd, re, S, h, k⟩ => by
    refine ⟨e, st, hid, _, re, S, h, fun J H1 it st1 F1 S1 ok1 at1 ⟨W, w0, turn⟩ p hp => ?_⟩
    have n1 := jn_free (S1.sr.free0 hp)
    refine ⟨fun j m H2 => m = it.xs.length - j ∧ ∃ acc st2, W j acc st2 ∧ Sx X.K (put st2 p acc) hid H2 ∧ st2 p = none ∧ Fr (jn (put st1 p []) hid) (upd H1 p (.lst [])) (jn (put st2 p acc) hid) H2, ⟨it.xs.length, by simp, [], st1, w0, S1.own hp .nil, n1.1, Fr.refl _ _⟩, ?_⟩
    rintro j m H2 ⟨rfl, acc, st2, w2, S2, n2, F2⟩
    obtain ⟨at2, done, go⟩ := turn j acc st2 w2
    have Sh := S2.hide n2
    have eqF : jn st2 (put hid p acc) = jn (put st2 p acc) hid := jn_swap n2
    -- from the state ahead of the new list
    have F12 : Fr (jn st1 hid) H1 (jn (put st2 p acc) hid) H2 := Fr.trans (fx_own hp) F2
    have F02 : Fr (jn st hid) H (jn (put st2 p acc) hid) H2 := Fr.trans F1 F12
    have atF : it.at (jn (put st2 p acc) hid) := fun a ds z => by
      have e1 := at2 a ds z
      have ne : a ≠ p := fun z' => by
        rw [z', n2] at e1
        cases e1
      exact jn_some (by rw [put_ne ne]; exact e1)
    have It := ok1 j _ H2 F12 S2.sr atF
    by_cases hj : it.xs.length ≤ j
    · refine .inl ⟨It.2 hj, ?_⟩
      obtain ⟨vs, hv, rv⟩ := S2.at_ put_same
      rcases hM _ _ _ (done hj) with ⟨xs, ep, q⟩ | q
      · have ea := pures_eq ep
        subst ea
        obtain ⟨Sc, Fc, fc⟩ := S2.frz put_same
        have ec : cut (put st2 p (xs.map D.d)) p = st2 := by
          funext b
          by_cases eb : b = p
          · rw [eb, cut_same, n2]
          · rw [cut_ne eb, put_ne eb]
        rw [ec] at Sc Fc fc
        exact k _ H2 _ st2 (Fr.trans F02 Fc) Sc (.d (.lst hv fc ((Dvs.of rv).mono Fc S2.sr))) q
      · exact k _ H2 _ _ F02 S2 (.own p) (q p n2)
    · have hlt : j < it.xs.length := Nat.lt_of_not_le hj
      have ed : it.xs[j]? = some it.xs[j] := List.getElem?_eq_getElem hlt
      obtain ⟨g1, g2⟩ := It.1 _ ed
      refine .inr ⟨g1, fun H' => ∃ acc' st', W (j + 1) acc' st' ∧ Sx X.K (put st' p acc') hid H' ∧ st' p = none ∧ Fr (jn (put st1 p []) hid) (upd H1 p (.lst [])) (jn (put st' p acc') hid) H', fun H' ⟨acc', st', h1, h2, h3, h4⟩ => ⟨it.xs.length - (j + 1), by omega, rfl, acc', st', h1, h2, h3, h4⟩, fun x H3 hy => ?_⟩
      obtain ⟨F23, S3r, rx⟩ := g2 x H3 hy
      have S3 : Sx X.K (put st2 p acc) hid H3 := ⟨S2.dj, S3r⟩
      have S3h := S3.hide n2
      have F03 := Fr.trans F02 F23
      have reX : RE X.K (jn st2 (put hid p acc)) H3 (((wipe σ [i]).set i (some x))) (e.set i (some it.xs[j])) := by
        rw [eqF]
        show RE X.K _ H3 ((σ.set i none).set i (some x)) _
        rw [set_none_set]
        exact (re.mono F03 S.sr).set rx
      show wipe ((wipe σ [i]).set i (some x)) [i] = wipe σ [i] ∧ upT X.K tt ((wipe σ [i]).set i (some x)) H3 _
      refine ⟨by
        show (((σ.set i none).set i (some x)).set i none) = σ.set i none
        rw [List.set_set, List.set_set], ?_⟩
      refine ⟨_, st2, put hid p acc, _, reX, S3h, go _ ed, fun b H4 st4 F4 S4 q4 => ?_⟩
      have hn : hid p = none := n1.2
      have F3X : Fr (jn (put st1 p []) hid) (upd H1 p (.lst [])) (jn st2 (put hid p acc)) H3 := by
        rw [eqF]
        exact Fr.trans F2 F23
      cases b with
      | false =>
        rw [if_neg Bool.false_ne_true] at q4
        refine iteF ?_
        obtain ⟨S4', n4⟩ := S4.shown hn
        refine ⟨acc, st4, q4, S4', n4, ?_⟩
        rw [← jn_swap n4]
        exact Fr.trans F3X F4
      | true =>
        rw [if_pos rfl] at q4
        refine iteT ?_
        refine ⟨_, st4, put hid p acc, _, reX.mono F4 S3h.sr, S4, q4, fun v H5 d st5 F5 S5 r5 ⟨hz, w5⟩ => ?_⟩
        obtain ⟨S5', n5⟩ := S5.shown hn
        obtain ⟨vs, hv, rv⟩ := S5'.at_ put_same
        rw [jn_swap n5] at r5
        refine ⟨vs, hv, by rw [Paired.length rv]; exact hz, acc ++ [d], st5, w5, ?_, n5, ?_⟩
        · have := S5'.store (es := acc ++ [d]) put_same (DvsD.snoc rv r5)
          have ee : put (put st5 p acc) p (acc ++ [d]) = put st5 p (acc ++ [d]) := by
            funext b
            by_cases eb : b = p
            · rw [eb, put_same, put_same]
            · rw [put_ne eb, put_ne eb, put_ne eb]
          rw [ee] at this
          exact this
        · have Fa : Fr (jn (put st1 p []) hid) (upd H1 p (.lst [])) (jn (put st5 p acc) hid) H5 := by
            rw [← jn_swap n5]
            exact Fr.trans F3X (Fr.trans F4 F5)
          intro b o hb hf
          have ne : b ≠ p := fun z => by
            rw [z, jn_some put_same] at hf
            cases hf
          obtain ⟨z1, z2⟩ := Fa b o hb hf
          refine ⟨by rw [upd_ne ne]; exact z1, ?_⟩
          unfold jn at z2 ⊢
          rw [put_ne ne] at z2 ⊢
          exact z2
theorem hm_own : ∀ ds st Q, mkL ds st Q → mkL ds st Q := fun _ _ _ h => h
theorem hm_val : ∀ ds st Q, mkV ds st Q → mkL ds st Q := fun _ _ _ h => .inl h
end DL
namespace DL
open PySem PySem.Spec PyProof.Rows L2
/-! ### targets -/
abbrev TGd := D → Ed → Sto → (Ed → Sto → Prop) → Prop
abbrev TGsd := List D → Ed → Sto → (Ed → Sto → Prop) → Prop
def upG (K : PySem.W.Frag) (t : TGd) : TG := fun v σ H Q => ∃ d e st hid Qd, DvD K (jn st hid) H v d ∧ RE K (jn st hid) H σ e ∧ Sx K st hid H ∧ t d e st Qd ∧ GoS K st hid H Qd Q
def upGs (K : PySem.W.Frag) (t : TGsd) : TGs := fun vs σ H Q => ∃ ds e st hid Qd, DvsD K (jn st hid) H vs ds ∧ RE K (jn st hid) H σ e ∧ Sx K st hid H ∧ t ds e st Qd ∧ GoS K st hid H Qd Q
abbrev PDG (X : Cx) (tg : Expr) (t : TGd) : Prop := PG X tg (upG X.K t)
abbrev PDGs (X : Cx) (tg : List Expr) (t : TGsd) : Prop := PGs X tg (upGs X.K t)
theorem PG.imp {X : Cx} {tg : Expr} {t t' : TG} (h : PG X tg t) (i : ∀ v σ H Q, t' v σ H Q → t v σ H Q) : PG X tg t' := ⟨fun pins s σ H v u Q I r w => h.run pins s σ H v u Q I r (i v σ H Q w)⟩
theorem PGs.imp {X : Cx} {tg : List Expr} {t t' : TGs} (h : PGs X tg t) (i : ∀ v σ H Q, t' v σ H Q → t v σ H Q) : PGs X tg t' := ⟨fun pins s σ H v u Q I r w => h.run pins s σ H v u Q I r (i v σ H Q w)⟩
theorem GoS.now {K : PySem.W.Frag} {st hid : Sto} {H : Hp} {Qd : Ed → Sto → Prop} {Q : L2.St → Hp → Prop} (g : GoS K st hid H Qd Q) {σ : L2.St} {e : Ed} (S : Sx K st hid H) (h : RE K (jn st hid) H σ e) (q : Qd e st) : Q σ H := g σ H e st (Fr.refl _ _) S h q
section
variable {X : Cx} {pos : Pos}
def hName (i : Nat) : TGd := fun d e st Q => Q (e.set i (some d)) st
theorem pdg_name {i : Nat} {x : Str} (hN : X.N.Nodup) (hi : X.N[i]? = some x) (hx : Loc X.env.scope x) (hf : X.fn x = true ∨ X.env.scope.names.lookup x = some .local := by first | exact .inl rfl | exact .inr rfl | assumption) : PDG X (.Name x pos) (hName i) :=
  PG.imp (pg_name hN hi hx hf) fun v σ H Q ⟨d, e, st, hid, Qd, r, re, S, q, k⟩ => GoS.now k S (re.set r) q
def hNil : TGsd := fun ds e st Q => ds = [] ∧ Q e st
def hCons (t : TGd) (u : TGsd) : TGsd := fun ds e st Q => match ds with
  | d :: r => t d e st fun e1 st1 => u r e1 st1 Q
  | [] => False
theorem pdgs_nil : PDGs X [] hNil := PGs.imp pgs_nil fun v σ H Q ⟨ds, e, st, hid, Qd, r, re, S, q, k⟩ => by
  obtain ⟨rfl, q⟩ := q
  cases r
  exact ⟨rfl, GoS.now k S re q⟩
theorem pdgs_cons {e : Expr} {es : List Expr} {t : TGd} {u : TGsd} (h1 : PDG X e t) (h2 : PDGs X es u)
    (hs : (assignEach (e :: es) X.env).map (·.2) = assign e X.env :: (assignEach es X.env).map (·.2) := by rfl) : PDGs X (e :: es) (hCons t u) :=
  PGs.imp (pgs_cons h1 h2 hs) fun v σ H Q ⟨ds, e, st, hid, Qd, r, re, S, q, k⟩ => by
    cases r with
    | nil => exact q.elim
    | cons h t =>
      exact ⟨_, _, rfl, _, e, st, hid, _, h, re, S, q, fun σ1 H1 e1 st1 F1 S1 re1 q1 => ⟨_, e1, st1, hid, Qd, DvsD.mono F1 S.sr t, re1, S1, q1, GoS.mono k F1⟩⟩
/-- (a, b, ..) = a tuple of that length -/
def hTup (n : Nat) (t : TGsd) : TGd := fun d e st Q => match d with
  | .d (.tuple xs) => xs.length = n ∧ t (xs.map D.d) e st Q
  | _ => False
theorem pdg_tup {es : List Expr} {k : Nat} {t : TGsd} {n : Nat} (hc : X.calm = true) (h : PDGs X es t)
    (hn : (assignEach es X.env).length = n := by rfl) (hst : (assignEach es X.env).findIdx? (·.1) = none := by rfl) : PDG X (.Tuple es k pos) (hTup n t) :=
  PG.imp (pg_tup hc h hn hst) fun v σ H Q ⟨d, e, st, hid, Qd, r, re, S, q, k⟩ => by
    unfold hTup at q
    split at q
    · obtain ⟨a, vs, rfl, h1, r1⟩ := tup_at r
      exact ⟨a, vs, rfl, h1, by rw [r1.length]; exact q.1, _, e, st, hid, Qd, Dvs.to r1, re, S, q.2, k⟩
    · exact q.elim
/-- xs[i] = v of a list that may change -/
def hSub (to ti : TEd) : TGd := fun d e st Q => to e st fun o st1 => ti e st1 fun i st2 => match o, i with
  | .own a, .d (.int i) => ∃ ds j, st2 a = some ds ∧ ixN ds.length i = some j ∧ Q e (put st2 a (ds.set j d))
  | _, _ => False
theorem pdg_sub {o i : Expr} {to ti : TEd} (ho : PD X o to) (hi : PD X i ti)
    (ha : ∀ v, assign (.Subscript o i pos) X.env v = (do
      let ov ← holding [v] (eval o X.env); let iv ← holding [v, ov] (eval i X.env)
      standAt pos; holding [v, ov, iv] (setItem ov iv v); release [v, ov, iv] []) := by intro _; rfl) : PDG X (.Subscript o i pos) (hSub to ti) :=
  PG.imp (pg_sub ho hi set_list ha) fun v σ H Q ⟨d, e, st, hid, Qd, r, re, S, h, k⟩ => ⟨e, st, hid, _, re, S, h, fun ov H1 od st1 F1 S1 r1 h1 => ⟨e, st1, hid, _, re.mono F1 S.sr, S1, h1, fun iv H2 id st2 F2 S2 r2 h2 => by
    split at h2
    · obtain ⟨ds, j, e1, e2, q⟩ := h2
      cases int_at r2
      cases r1 with
      | own _ =>
        obtain ⟨vs, hv, rv⟩ := S2.at_ e1
        have F := Fr.trans F1 F2
        refine ⟨_, vs, _, j, rfl, rfl, hv, by rw [Paired.length rv]; exact e2, ?_⟩
        have F3 : FrX st2 hid H2 (put st2 _ (ds.set j d)) (upd H2 _ (.lst (vs.set j v))) := fx_put e1
        exact k _ _ _ _ (Fr.trans F F3) (S2.store e1 (DvsD.set j rv (r.mono F S.sr))) (re.mono (Fr.trans F F3) S.sr) q
    · exact h2.elim⟩⟩
end
/-! ### statements -/
section
variable {X : Cx} {st : Stmt} {rest : List Stmt} {t u : TSd} {e : Expr} {te : TEd} {pos : Pos}
theorem PDS.go {X : Cx} {s : Stmt} {T : TS} {t : TSd} (h : PS X s T) (i : ∀ D σ H, upS X.K t D σ H → T D σ H) : PDS X s t := PS.imp h i
def dNext : TSd := fun E e st => E.nx e st
def dSeq (t u : TSd) : TSd := fun E e st => t { E with nx := u E } e st
theorem pss_dnil : PDSs X [] dNext := PSs.imp pss_nil fun D σ H ⟨e, st, hid, E, re, S, h, k1, k2, k3, k4⟩ => GoS.now k1 S re h
theorem seq_imp {K : PySem.W.Frag} {D : Ends} {σ : L2.St} {H : Hp} (w : upS K (dSeq t u) D σ H) : tSeq (upS K t) (upS K u) D σ H := by
  obtain ⟨e, st, hid, E, re, S, h, k1, k2, k3, k4⟩ := w
  exact ⟨e, st, hid, { E with nx := u E }, re, S, h, fun σ' H' e' st' F' S' re' q => ⟨e', st', hid, E, re', S', q, GoS.mono k1 F', Go.mono k2 F', GoS.mono k3 F', GoS.mono k4 F'⟩, k2, k3, k4⟩
theorem pss_dcons (h1 : PDS X st t) (h2 : PDSs X rest u) : PDSs X (st :: rest) (dSeq t u) := PSs.imp (pss_cons h1 h2) fun _ _ _ => seq_imp
theorem pss_done (h1 : PDS X st t) : PDSs X [st] t := pss_one h1
def dBreak : TSd := fun E e st => E.bk e st
def dCont : TSd := fun E e st => E.ct e st
theorem psd_break : PDS X (.Break pos) dBreak := PS.imp ps_break fun D σ H ⟨e, st, hid, E, re, S, h, k1, k2, k3, k4⟩ => GoS.now k3 S re h
theorem psd_cont : PDS X (.Continue pos) dCont := PS.imp ps_continue fun D σ H ⟨e, st, hid, E, re, S, h, k1, k2, k3, k4⟩ => GoS.now k4 S re h
theorem psd_pass : PDS X (.Pass pos) dNext := PS.imp ps_pass fun D σ H ⟨e, st, hid, E, re, S, h, k1, k2, k3, k4⟩ => GoS.now k1 S re h
def dNever : TSd := fun _ _ _ => False
theorem pss_dnever {sts : List Stmt} : PDSs X sts dNever := PSs.imp pss_never fun D σ H ⟨e, st, hid, E, re, S, h, _⟩ => h.elim
theorem psd_never : PDS X st dNever := PS.imp ps_never fun D σ H ⟨e, st, hid, E, re, S, h, _⟩ => h.elim
def dDrop (te : TEd) : TSd := fun E e st => te e st fun _ st1 => E.nx e st1
theorem psd_expr (he : PD X e te) (hs : swapsWith e none pos.line X.env = pure false := by rfl) : PDS X (.Expr e pos) (dDrop te) :=
  PS.imp (ps_expr he hs) fun D σ H ⟨e, st, hid, E, re, S, h, k1, k2, k3, k4⟩ => ⟨e, st, hid, _, re, S, h, fun v H1 d st1 F1 S1 r q => k1 σ H1 e st1 F1 S1 (re.mono F1 S.sr) q⟩
/-- a list that may change is given as a value -/
def frz (Q : Kd) : Kd := fun d st => Q d st ∨ ∃ a xs, d = .own a ∧ st a = some (xs.map D.d) ∧ Q (.d (.list xs)) (cut st a)
theorem frz_go {K : PySem.W.Frag} {st hid : Sto} {H : Hp} {Qd : Kd} {Q : VK} (k : Go K st hid H Qd Q) : Go K st hid H (frz Qd) Q := fun v H1 d st1 F1 S1 r q => by
  rcases q with q | ⟨a, xs, rfl, e1, q⟩
  · exact k v H1 d st1 F1 S1 r q
  · cases r with
    | own _ =>
      obtain ⟨vs, hv, rv⟩ := S1.at_ e1
      obtain ⟨Sc, Fc, fc⟩ := S1.frz e1
      exact k _ H1 _ _ (Fr.trans F1 Fc) Sc (.d (.lst hv fc ((Dvs.of rv).mono Fc S1.sr))) q
def dRet (te : TEd) : TSd := fun E e st => te e st (frz E.rt)
theorem psd_ret (he : PD X e te) : PDS X (.Return (some e) pos) (dRet te) :=
  PS.imp (ps_ret he) fun D σ H ⟨e, st, hid, E, re, S, h, k1, k2, k3, k4⟩ => ⟨e, st, hid, _, re, S, h, frz_go k2⟩
def dRetN : TSd := fun E _ st => E.rt (.d .none) st
theorem psd_retN : PDS X (.Return none pos) dRetN := PS.imp ps_retN fun D σ H ⟨e, st, hid, E, re, S, h, k1, k2, k3, k4⟩ => Go.now k2 S (.d .non) h
def dIfS (c : TTd) (t u : TSd) : TSd := fun E e st => c e st fun b st1 => if b = true then t E e st1 else u E e st1
theorem psd_if {c : Expr} {a b : List Stmt} {tc : TTd} (hc : PDT X c tc) (ha : PDSs X a t) (hb : PDSs X b u) : PDS X (.If c a b pos) (dIfS tc t u) :=
  PS.imp (ps_if hc ha hb) fun D σ H ⟨e, st, hid, E, re, S, h, k1, k2, k3, k4⟩ => ⟨e, st, hid, _, re, S, h, fun b H1 st1 F1 S1 q => by
    cases b with
    | true =>
      rw [if_pos rfl] at q
      exact iteT ⟨e, st1, hid, E, re.mono F1 S.sr, S1, q, GoS.mono k1 F1, Go.mono k2 F1, GoS.mono k3 F1, GoS.mono k4 F1⟩
    | false =>
      rw [if_neg Bool.false_ne_true] at q
      exact iteF ⟨e, st1, hid, E, re.mono F1 S.sr, S1, q, GoS.mono k1 F1, Go.mono k2 F1, GoS.mono k3 F1, GoS.mono k4 F1⟩⟩
def dAsg (te : TEd) (g : TGd) : TSd := fun E e st => te e st (frz fun d st1 => g d e st1 E.nx)
theorem asg_imp {K : PySem.W.Frag} {g : TGd} {D : Ends} {σ : L2.St} {H : Hp} (w : upS K (dAsg te g) D σ H) : tAsg (up K te) (upG K g) D σ H := by
  obtain ⟨e, st, hid, E, re, S, h, k1, k2, k3, k4⟩ := w
  exact ⟨e, st, hid, _, re, S, h, frz_go fun v H1 d st1 F1 S1 r q => ⟨d, e, st1, hid, _, r, re.mono F1 S.sr, S1, q, GoS.mono k1 F1⟩⟩
theorem psd_asg {tg : Expr} {g : TGd} (he : PD X e te) (hg : PDG X tg g) (hs : swapsWithSole [tg] e pos.line X.env = pure false := by rfl) (hw : swappedStores [tg] e X.env = pure none := by rfl)
    (h1 : (assignEach [tg] X.env).map (·.2) = [assign tg X.env] := by rfl) : PDS X (.Assign [tg] e pos) (dAsg te g) := PS.imp (ps_asg he hg hs hw h1) fun _ _ _ => asg_imp
theorem psd_set {i : Nat} {x : Str} {pos' : Pos} (hN : X.N.Nodup) (hi : X.N[i]? = some x) (hx : Loc X.env.scope x) (he : PD X e te) (hs : swapsWith e (some (.Name x pos')) pos.line X.env = pure false := by rfl) (hf : X.fn x = true ∨ X.env.scope.names.lookup x = some .local := by first | exact .inl rfl | exact .inr rfl | assumption) :
    PDS X (.Assign [.Name x pos'] e pos) (dAsg te (hName i)) := PS.imp (ps_set hN hi hx he hs hf) fun D σ H ⟨e, st, hid, E, re, S, h, k1, k2, k3, k4⟩ => ⟨e, st, hid, _, re, S, h, frz_go fun v H1 d st1 F1 S1 r q => k1 _ H1 _ st1 F1 S1 ((re.mono F1 S.sr).set r) q⟩
/-- a, b = x, y with plain local names -/
def dPar (i j : Nat) (ta : TAd) : TSd := fun E e st => ta e st fun ds st1 => match ds with
  | [d1, d2] => E.nx ((e.set i (some d1)).set j (some d2)) st1
  | _ => False
theorem psd_par {i j : Nat} {x y : Str} {a b : Expr} {ta : TAd} {px py pt : Pos} {kt k2 pt2} (hc : X.calm = true) (hN : X.N.Nodup) (hi : X.N[i]? = some x) (hj : X.N[j]? = some y) (hij : i ≠ j)
    (hx : X.env.scope.names.lookup x = some .local) (hy : X.env.scope.names.lookup y = some .local) (ha : PDA X [a, b] ta)
    (hw : swappedStores [.Tuple [.Name x px, .Name y py] kt pt] (.Tuple [a, b] k2 pt2) X.env = pure (some [x, y]))
    (hs : swapsWithSole [.Tuple [.Name x px, .Name y py] kt pt] (.Tuple [a, b] k2 pt2) pos.line X.env = pure false := by rfl) :
    PDS X (.Assign [.Tuple [.Name x px, .Name y py] kt pt] (.Tuple [a, b] k2 pt2) pos) (dPar i j ta) :=
  PS.imp (ps_par hc hN hi hj hij hx hy ha hw hs) fun D σ H ⟨e, st, hid, E, re, S, h, k1, k2, k3, k4⟩ => ⟨e, st, hid, _, re, S, h, fun vs H1 ds st1 F1 S1 r q => by
    split at q
    · obtain ⟨v, v', rfl, r1, r2⟩ := DvsD.two r
      exact ⟨v, v', rfl, k1 _ H1 _ st1 F1 S1 (((re.mono F1 S.sr).set r1).set r2) q⟩
    · exact q.elim⟩
def dPar3 (i j l : Nat) (ta : TAd) : TSd := fun E e st => ta e st fun ds st1 => match ds with
  | [d1, d2, d3] => E.nx (((e.set i (some d1)).set j (some d2)).set l (some d3)) st1
  | _ => False
theorem psd_par3 {i j l : Nat} {x y z : Str} {a b c : Expr} {ta : TAd} {px py pz pt : Pos} {kt k2 pt2} (hc : X.calm = true) (hN : X.N.Nodup) (hi : X.N[i]? = some x) (hj : X.N[j]? = some y) (hl : X.N[l]? = some z) (hij : i ≠ j) (hil : i ≠ l) (hjl : j ≠ l)
    (hx : X.env.scope.names.lookup x = some .local) (hy : X.env.scope.names.lookup y = some .local) (hz : X.env.scope.names.lookup z = some .local) (ha : PDA X [a, b, c] ta)
    (hw : swappedStores [.Tuple [.Name x px, .Name y py, .Name z pz] kt pt] (.Tuple [a, b, c] k2 pt2) X.env = pure (some [x, y, z]))
    (hs : swapsWithSole [.Tuple [.Name x px, .Name y py, .Name z pz] kt pt] (.Tuple [a, b, c] k2 pt2) pos.line X.env = pure false := by rfl) :
    PDS X (.Assign [.Tuple [.Name x px, .Name y py, .Name z pz] kt pt] (.Tuple [a, b, c] k2 pt2) pos) (dPar3 i j l ta) :=
  PS.imp (ps_par3 hc hN hi hj hl hij hil hjl hx hy hz ha hw hs) fun D σ H ⟨e, st, hid, E, re, S, h, k1, k2, k3, k4⟩ => ⟨e, st, hid, _, re, S, h, fun vs H1 ds st1 F1 S1 r q => by
    split at q
    · cases r with
      | cons r1 t =>
        obtain ⟨v, v', rfl, r2, r3⟩ := DvsD.two t
        exact ⟨_, v, v', rfl, k1 _ H1 _ st1 F1 S1 ((((re.mono F1 S.sr).set r1).set r2).set r3) q⟩
    · exact q.elim⟩
/-- xs.append(e) -/
def dApp (to te : TEd) : TEd := fun e st Q => to e st fun o st1 => match o with
  | .own a => (st1 a).isSome = true ∧ te e st1 fun d st2 => ∃ ds, st2 a = some ds ∧ ds.length < sizeLine ∧ Q (.d .none) (put st2 a (ds ++ [d]))
  | _ => False
theorem pd_append {o : Expr} {to : TEd} {apos cpos : Pos} (ho : PD X o to) (ha : PD X e te)
    (hbase : attributeBase o "append" X.env (eval o X.env) = eval o X.env := by rfl) (hline : (apos.endLine == cpos.line) = true := by rfl)
    (hs0 : starEach [e] X.env = (false, eval e X.env) :: starEach [] X.env := by rfl)
    (hfew : ((backTo cpos (starEach [e] X.env)).all (fun x => !x.1) && (backToKw cpos (keywordEach [] X.env)).all (fun x => x.1.isSome) && decide ([e].length + ([] : List Keyword).length + (if ([] : List Keyword).isEmpty then 0 else 1) < 30)) = true := by rfl)
    (hplain : (backTo cpos (starEach [] X.env)).any (·.1) = false := by rfl) : PD X (.Call (.Attribute o "append" apos) [e] [] cpos) (dApp to te) := by
  refine PE.imp (pe_bm PySem.F.plainAttrs_list PySem.F.slot_list_append PySem.F.type_list_append mt_append ho (pa_cons ha pa_nil hs0) hbase hfew hline hs0 hplain) fun σ H Q ⟨e, st, hid, Qd, re, S, h, k⟩ => ⟨e, st, hid, _, re, S, h, fun v H1 d st1 F1 S1 r q => ?_⟩
  cases r with
  | d h => exact q.elim
  | scr h f => exact q.elim
  | own a =>
    obtain ⟨h0, q⟩ := q
    obtain ⟨ds, e1⟩ := Option.isSome_iff_exists.mp h0
    obtain ⟨vs, hv, rv⟩ := S1.at_ e1
    refine ⟨.inl ⟨rfl, vs, .inl (.inl hv)⟩, e, st1, hid, _, re.mono F1 S.sr, S1, q, fun y H2 dy st2 F2 S2 ry ⟨es, e2, hz, q2⟩ => ?_⟩
    obtain ⟨ws, hw, rw'⟩ := S2.at_ e2
    have F3 : FrX st2 hid H2 (put st2 a (es ++ [dy])) (upd H2 a (.lst (ws ++ [y]))) := fx_put e2
    exact ⟨a, ws, y, rfl, rfl, hw, by rw [Paired.length rw']; exact hz, k _ _ _ _ (Fr.trans F1 (Fr.trans F2 F3)) (S2.store e2 (DvsD.snoc rw' ry)) (.d .non) q2⟩
/-- while: the word and its measure -/
def dWhile (c : TTd) (tb : TSd) : TSd := fun E e st => ∃ W : Nat → Ed → Sto → Prop, (∃ m, W m e st) ∧ ∀ m e st, W m e st → c e st fun b st1 => if b = true then tb { E with nx := fun e' st' => ∃ m', m' < m ∧ W m' e' st', ct := fun e' st' => ∃ m', m' < m ∧ W m' e' st', bk := E.nx } e st1 else E.nx e st1
theorem psd_while {c : Expr} {body : List Stmt} {tc : TTd} {tb : TSd} (hp : PassesOwn (model X.prog X.w) X.A X.env X.xe) (hc : PDT X c tc) (hb : PDSs X body tb) : PDS X (.While c body [] pos) (dWhile tc tb) :=
  PS.imp (ps_while hp hc hb) fun D σ H ⟨e, st, hid, E, re, S, ⟨W, ⟨m0, w0⟩, turn⟩, k1, k2, k3, k4⟩ => by
    refine ⟨fun m σ' H' => ∃ e' st', W m e' st' ∧ FrX st hid H st' H' ∧ Sx X.K st' hid H' ∧ RE X.K (jn st' hid) H' σ' e', ⟨m0, e, st, w0, Fr.refl _ _, S, re⟩, fun m σ1 H1 ⟨e1, st1, w1, F1, S1, re1⟩ => ?_⟩
    refine ⟨e1, st1, hid, _, re1, S1, turn m e1 st1 w1, fun b H2 st2 F2 S2 q => ?_⟩
    have F := Fr.trans F1 F2
    cases b with
    | false =>
      rw [if_neg Bool.false_ne_true] at q
      exact iteF (k1 _ H2 _ st2 F S2 (re1.mono F2 S1.sr) q)
    | true =>
      rw [if_pos rfl] at q
      refine iteT ⟨fun σ' H' => ∃ m', m' < m ∧ ∃ e' st', W m' e' st' ∧ FrX st hid H st' H' ∧ Sx X.K st' hid H' ∧ RE X.K (jn st' hid) H' σ' e', fun σ' H' ⟨m', h1, h2⟩ => ⟨m', h1, h2⟩, e1, st2, hid, _, re1.mono F2 S1.sr, S2, q, ?_, Go.mono k2 F, GoS.mono k1 F, ?_⟩
      · exact fun σ3 H3 e3 st3 F3 S3 re3 ⟨m', h1, h2⟩ => ⟨m', h1, e3, st3, h2, Fr.trans F F3, S3, re3⟩
      · exact fun σ3 H3 e3 st3 F3 S3 re3 ⟨m', h1, h2⟩ => ⟨m', h1, e3, st3, h2, Fr.trans F F3, S3, re3⟩
/-- for: the word by the turn -/
def dFor (ti : TId) (g : TGd) (tb : TSd) : TSd := fun E e st => ti e st fun it st1 => ∃ W : Nat → Ed → Sto → Prop, W 0 e st1 ∧ ∀ i e st, W i e st → it.at st ∧ (it.xs.length ≤ i → E.nx e st) ∧
  ∀ d, it.xs[i]? = some d → g d e st fun e2 st2 => tb { E with nx := W (i + 1), ct := W (i + 1), bk := E.nx } e2 st2
theorem psd_for {tg iter : Expr} {body : List Stmt} {ti : TId} {g : TGd} {tb : TSd} (hp : PassesOwn (model X.prog X.w) X.A X.env X.xe) (hc : X.calm = true) (hi : PDI X tg iter ti) (hg : PDG X tg g) (hb : PDSs X body tb)
    (hs : ∀ x, foldedSetIterable iter X.env x = pure x := by intro _; rfl) : PDS X (.For tg iter body [] pos) (dFor ti g tb) :=
  PS.imp (ps_for hp hc hi hg hb hs) fun D σ H ⟨e, st, hid, E, re, S, h, k1, k2, k3, k4⟩ => by
    refine ⟨e, st, hid, _, re, S, h, fun J H1 it st1 F1 S1 ok1 at1 ⟨W, w0, turn⟩ => ?_⟩
    refine ⟨fun i m σ' H' => m = it.xs.length - i ∧ ∃ e' st', W i e' st' ∧ FrX st1 hid H1 st' H' ∧ Sx X.K st' hid H' ∧ RE X.K (jn st' hid) H' σ' e', ⟨it.xs.length, by simp, e, st1, w0, Fr.refl _ _, S1, re.mono F1 S.sr⟩, ?_⟩
    rintro i m σ2 H2 ⟨rfl, e2, st2, w2, F2, S2, re2⟩
    obtain ⟨at2, done, go⟩ := turn i e2 st2 w2
    have It := ok1 i _ H2 F2 S2.sr fun a ds z => jn_some (at2 a ds z)
    by_cases hj : it.xs.length ≤ i
    · exact .inl ⟨It.2 hj, k1 _ H2 _ st2 (Fr.trans F1 F2) S2 re2 (done hj)⟩
    · have hlt : i < it.xs.length := Nat.lt_of_not_le hj
      have ed : it.xs[i]? = some it.xs[i] := List.getElem?_eq_getElem hlt
      obtain ⟨g1, g2⟩ := It.1 _ ed
      refine .inr ⟨g1, fun σ' H' => ∃ e' st', W (i + 1) e' st' ∧ FrX st1 hid H1 st' H' ∧ Sx X.K st' hid H' ∧ RE X.K (jn st' hid) H' σ' e', fun σ' H' q => ⟨it.xs.length - (i + 1), by omega, rfl, q⟩, fun x H3 hy => ?_⟩
      obtain ⟨F3, S3r, rx⟩ := g2 x H3 hy
      have S3 : Sx X.K st2 hid H3 := ⟨S2.dj, S3r⟩
      refine ⟨_, e2, st2, hid, _, rx, re2.mono F3 S2.sr, S3, go _ ed, fun σ4 H4 e4 st4 F4 S4 re4 q4 => ?_⟩
      have F14 : FrX st1 hid H1 st4 H4 := Fr.trans F2 (Fr.trans F3 F4)
      have F04 := Fr.trans F1 F14
      refine ⟨e4, st4, hid, _, re4, S4, q4, ?_, Go.mono k2 F04, GoS.mono k1 F04, ?_⟩
      · exact fun σ' H' e' st' F' S' re' w => ⟨e', st', w, Fr.trans F14 F', S', re'⟩
      · exact fun σ' H' e' st' F' S' re' w => ⟨e', st', w, Fr.trans F14 F', S', re'⟩
end
end DL
namespace DL
open PySem PySem.Spec PyProof.Rows L2
/-! ### defs: as FnOk, called where no repr is under way -/
structure FnG (P : Program) (w : World) (K : PySem.W.Frag) (mg : Str → Option Value) (base : Heap) (k : Nat) (f : Addr) (fd : FuncData) (ps : List Str) (sp : Sp) : Prop where
  len : ∀ vs H Q E, sp vs H Q E → vs.length = ps.length
  run : ∀ (A : Around) (outer : List Env) (s : Shared) (H : Hp) (args : Args) (us : List Value) (vs : List V) (Q : VK) (E : XK), A.guards = some [] → Room k A → Env0 P w K mg base A outer s H → BindsTo s fd args (ps.zip us) → Vals vs us → sp vs H Q E →
    codeAny (model P w) A (.call (.ref f) args) (CR CX0 outer P w H s Q E) s
theorem FnG.mono {P : Program} {w : World} {K : PySem.W.Frag} {mg : Str → Option Value} {base : Heap} {j k : Nat} {f : Addr} {fd : FuncData} {ps : List Str} {sp : Sp} (F : FnG P w K mg base j f fd ps sp) (h : j ≤ k) : FnG P w K mg base k f fd ps sp :=
  ⟨F.len, fun A outer s H args us vs Q E hg hr => F.run A outer s H args us vs Q E hg (hr.mono h)⟩
abbrev SpD := List D → Sto → Kd → Prop
def upSp (K : PySem.W.Frag) (sp : SpD) : Sp := fun vs H Q _ => ∃ ds st hid Qd, DvsD K (jn st hid) H vs ds ∧ Sx K st hid H ∧ sp ds st Qd ∧ Go K st hid H Qd Q
abbrev FnD (P : Program) (w : World) (K : PySem.W.Frag) (mg : Str → Option Value) (base : Heap) (k : Nat) (f : Addr) (fd : FuncData) (ps : List Str) (sp : SpD) : Prop := FnG P w K mg base k f fd ps (upSp K sp)
theorem FnD.imp {P : Program} {w : World} {K : PySem.W.Frag} {mg : Str → Option Value} {base : Heap} {k : Nat} {f : Addr} {fd : FuncData} {ps : List Str} {sp sp' : SpD} (F : FnD P w K mg base k f fd ps sp) (i : ∀ ds st Q, sp' ds st Q → sp ds st Q) : FnD P w K mg base k f fd ps sp' :=
  ⟨fun vs H Q E ⟨ds, st, hid, Qd, r, S, h, g⟩ => F.len vs H Q E ⟨ds, st, hid, Qd, r, S, i _ _ _ h, g⟩, fun A outer s H args us vs Q E hg hr he hb hv ⟨ds, st, hid, Qd, r, S, h, g⟩ => F.run A outer s H args us vs Q E hg hr he hb hv ⟨ds, st, hid, Qd, r, S, i _ _ _ h, g⟩⟩
section
variable {P : Program} {w : World} {K : PySem.W.Frag} {mg : Str → Option Value} {base : Heap}
/-- the context in which a def's body runs -/
abbrev cxD (P : Program) (w : World) (K : PySem.W.Frag) (mg : Str → Option Value) (base : Heap) (N : List Str) (qual : Str) (sc : Scope) (f : Addr) (cd : Value) (A : Around) (outer : List Env) (s : Shared) (H : Hp) (E : XK) : Cx := (cxOf CX0 P w K mg base N qual sc f cd A outer s H E).nox
def startD (N : List Str) (ds : List D) : Ed := ds.map some ++ List.replicate (N.length - ds.length) none
theorem re_start {st : Sto} {H : Hp} {N : List Str} {vs : List V} {ds : List D} (r : DvsD K st H vs ds) : RE K st H (L2.start N vs) (startD N ds) := by
  have hl := Paired.length r
  refine ⟨by unfold L2.start startD; simp [hl], fun i d h => ?_⟩
  unfold startD at h
  by_cases hi : i < ds.length
  · rw [List.getElem?_append_left (by simpa using hi), List.getElem?_map] at h
    cases q : ds[i]? with
    | none =>
      rw [q] at h
      cases h
    | some d' =>
      rw [q] at h
      cases Option.some.inj (Option.some.inj h)
      obtain ⟨v, h1, h2⟩ := r.get q
      refine ⟨v, ?_, h2⟩
      unfold L2.start
      rw [List.getElem?_append_left (by simpa [hl] using hi), List.getElem?_map, h1]
      rfl
  · rw [List.getElem?_append_right (by simpa using hi), List.getElem?_replicate] at h
    split at h <;> cases h
theorem fnD_ok {x qual : Str} {st : Stmt} {f : Addr} {fd : FuncData} {N ps : List Str} {k : Nat} {sp : SpD} {t : TSd} (F : Fun K x qual st f fd) (S : FnScope N ps (defScope st)) (len : ∀ ds s Q, sp ds s Q → ds.length = ps.length)
    (hbody : ∀ (cd : Value) (A : Around) (outer : List Env) (s : Shared) (H : Hp) (E : XK), A.guards = some [] → Room k (A.deeper (envOfC qual (defScope st) s.heap.objs.size f cd)) → PDSs (cxD P w K mg base N qual (defScope st) f cd A outer s H E) (defBody st) t)
    (hsp : ∀ ds s Q, sp ds s Q → t { nx := fun _ s' => Q (.d .none) s', rt := Q } (startD N ds) s) : FnD P w K mg base (k + 1) f fd ps sp := by
  obtain ⟨oc, od, kV, doc, pm, an, cd, ct, osl, rfl, lk, hcd⟩ := F.ex
  have lenV : ∀ vs H Q E, upSp K sp vs H Q E → vs.length = ps.length := fun vs H Q E ⟨ds, s, hid, Qd, r, _, h, _⟩ => (Paired.length r).trans (len ds s Qd h)
  refine ⟨lenV, fun A outer s H args us vs Q E hg hr e0 hb r hq => ?_⟩
  have KX : K.In s.heap := e0.mod.kin.keeps fun b o e => (e0.bs b o e).1
  have lim : s.heap.NoLimit := e0.mod.nolimit.keeps fun b o e => (e0.bs b o e).1
  have hkind : ∀ y ∈ ps.zip us, (defScope st).names.lookup y.1 = some .local ∨ ((defScope st).names.lookup y.1 = some .cell ∧ ((cellsFrom (s.heap.objs.size + 1) (defScope st).names []).lookup y.1).isSome = true) := fun y hy =>
    (S.par y.1 (List.of_mem_zip (show (y.1, y.2) ∈ ps.zip us from hy)).1).elim .inl fun q => .inr ⟨q, PySem.W.cellsFrom_some _ _ _ (.inl q)⟩
  refine codeAny_call_function hr.depth (KX _ _ lk) rfl S.co S.gen rfl (PySem.W.codeRec_of KX hcd) (hb _ _ _ _ (wpAny_newFunctionEnv_cells S.kind hkind fun env he s1 x1 => ?_))
  subst he
  refine ⟨lim.keeps x1.toInCall.keep, codeAny_func ?_⟩
  have ht := (hbody cd A outer s H E hg (hr.deeper _)).nox
  have I := inv_start (CX := CX0) (K := K) (mg := mg) (base := base) (E := E) S hr.hd e0 (lenV _ _ _ _ hq) r x1
  obtain ⟨ds, sd, hid, Qd, rd, Sd, hd, gd⟩ := hq
  have rdy : upS K t { nx := fun _ H' => Q .non H', rt := Q } (L2.start N vs) H := by
    refine ⟨startD N ds, sd, hid, { nx := fun _ s' => Qd (.d .none) s', rt := Qd }, re_start rd, Sd, hsp ds sd Qd hd, ?_, gd, ?_, ?_⟩
    · exact fun _ H' _ st' F' S' _ q => gd .non H' _ st' F' S' (.d .non) q
    · exact fun _ _ _ _ _ _ _ q => q.elim
    · exact fun _ _ _ _ _ _ _ q => q.elim
  refine wpAny_mono (ht.run [] s1 (L2.start N vs) H _ I rdy) (fun fl s' hs => ?_) fun e s' hs => hs
  cases fl with
  | ret u =>
    obtain ⟨v, σ', H', J, rv, q⟩ := hs
    exact ⟨v, H', J.os, J.bare, J.base, J.hok, rv, q⟩
  | next =>
    obtain ⟨σ', H', J, q⟩ := hs
    exact ⟨.non, H', J.os, J.bare, J.base, J.hok, rfl, q⟩
  | brk =>
    obtain ⟨_, _, _, q⟩ := hs
    exact False.elim q
  | cont =>
    obtain ⟨_, _, _, q⟩ := hs
    exact False.elim q
end
/-! ### calls of defs -/
section
variable {X : Cx} {k : Nat} {f : Addr} {fd : FuncData} {ps ks : List Str} {sp : SpD} {dds : List D} {ds : List Value} {x : Str} {p pos : Pos} {e : Expr} {es : List Expr} {kws : List Keyword} {t tk : TAd}
theorem run_fg {pins : List (Addr × Obj)} {σ : L2.St} {H : Hp} {s : Shared} {Q : VK} {us ws : List Value} {kw : List (Str × Value)} {vs : List V} {S : Sp} (F : FnG X.prog X.w X.K X.mg X.base k f fd ps S) (hG : X.A.guards = some []) (hr : Room k X.A)
    (I : Inv X pins σ H s) (hb : us.length = ps.length → BindsTo s fd ⟨ws, kw⟩ (ps.zip us)) (r : Vals vs us) (h : S vs H Q E0) : wpAny (model X.prog X.w) X.A (call (.ref f) ws kw) (EP X pins σ Q) X.xe s := by
  have hl : us.length = ps.length := by
    rw [← r.length]
    exact F.len _ _ _ _ h
  refine wpAny_call (codeAny_mono (F.run X.A X.stack s H ⟨ws, kw⟩ us vs Q E0 hG hr I.env0 (hb hl) r h) fun r s' hq => ?_)
  cases r with
  | error e => exact False.elim hq
  | ok fl =>
    cases fl with
    | ret u => exact I.after hq
    | next => exact False.elim hq
    | brk => exact False.elim hq
    | cont => exact False.elim hq
def dFn (sp : SpD) (dds : List D) (t : TAd) : TEd := fun e st Q => t e st fun xs st1 => sp (xs ++ dds) st1 Q
/-- f(e, ..), the rest by defaults -/
theorem pd_fn (F : FnD X.prog X.w X.K X.mg X.base k f fd ps sp) (hG : X.A.guards = some []) (hr : Room k X.A) (hg : Gl X x) (hm : X.mg x = some (.ref f)) (hk : PySem.W.keepIn X.K (.ref f) = true) (hb : Binds X.K fd ps ds)
    (hd : ∃ dvs, Vals dvs ds ∧ ∀ st H, DvsD X.K st H dvs dds) (ha : PDA X (e :: es) t) (hdb : (x == ("__debug__" : Str)) = false := by decide) (he : starEach (e :: es) X.env = (false, eval e X.env) :: starEach es X.env := by rfl)
    (hpl : (backTo pos (starEach es X.env)).any (·.1) = false := by rfl) : PD X (.Call (.Name x p) (e :: es) [] pos) (dFn sp dds t) := by
  refine ⟨fun pins s σ H Q I ⟨en, st, hid, Qd, re, S, h, g⟩ => ?_⟩
  obtain ⟨dvs, hv, hdd⟩ := hd
  refine wpAny_Call_Name_kw (ld_glob I hg hm (PySem.W.callWith_K (h₀ := X.base) I.ok.mod.kin hk (thn (ha.run pos pins s σ H (fun vs H1 => upSp X.K sp (vs ++ dvs) H1 Q E0) I ⟨en, st, hid, _, re, S, h, fun vs H1 ds1 st1 F1 S1 r1 h1 => ?_⟩) fun us s1 ⟨vs, H1, I1, r, q⟩ => ⟨I1.kIn, ?_⟩) he hpl) hdb)
  · exact ⟨_, st1, hid, Qd, DvsD.append r1 (hdd _ _), S1, h1, Go.mono g F1⟩
  · exact run_fg F hG hr I1 (fun hl => hb _ us I1.kIn hl) (r.append hv) q
def pick {α : Type} (ix : List Nat) (xs : List α) : List α := ix.filterMap fun i => xs[i]?
theorem pick_pair {α β : Type} {R : α → β → Prop} {xs : List α} {ys : List β} (r : Paired R xs ys) : ∀ ix : List Nat, Paired R (pick ix xs) (pick ix ys)
  | [] => .nil
  | i :: ix => by
    have ih := pick_pair r ix
    have key : ∀ {xs : List α} {ys : List β} (i : Nat), Paired R xs ys → (xs[i]? = none ∧ ys[i]? = none) ∨ ∃ x y, xs[i]? = some x ∧ ys[i]? = some y ∧ R x y := by
      intro xs ys i r
      induction r generalizing i with
      | nil => exact .inl ⟨by simp, by simp⟩
      | cons h t ih =>
        cases i with
        | zero => exact .inr ⟨_, _, rfl, rfl, h⟩
        | succ i => simpa using ih i
    unfold pick at ih ⊢
    rw [List.filterMap_cons, List.filterMap_cons]
    rcases key i r with ⟨h1, h2⟩ | ⟨x, y, h1, h2, h3⟩
    · rw [h1, h2]
      exact ih
    · rw [h1, h2]
      exact .cons h3 ih
/-- the keywords' values -/
abbrev PDK (X : Cx) (kws : List Keyword) (t : TAd) : Prop := PK X kws (upA X.K t)
theorem PK.imp {X : Cx} {kws : List Keyword} {t t' : TA} (h : PK X kws t) (i : ∀ σ H Q, t' σ H Q → t σ H Q) : PK X kws t' := ⟨fun pos pins s σ H Q I w => h.run pos pins s σ H Q I (i σ H Q w)⟩
theorem pdk_nil : PDK X [] dNil := PK.imp pk_nil fun σ H Q ⟨e, st, hid, Qd, re, S, h, k⟩ => k [] H [] st (Fr.refl _ _) S .nil h
theorem pdk_cons {nm : Option Str} {kpos : Pos} {te : TEd} (ha : PD X e te) (hr : PDK X kws t) : PDK X (⟨nm, e, kpos⟩ :: kws) (dCons te t) :=
  PK.imp (pk_cons ha hr) fun σ H Q ⟨e, st, hid, Qd, re, S, h, k⟩ => ⟨e, st, hid, _, re, S, h, fun v1 H1 d1 st1 F1 S1 r1 h1 => ⟨e, st1, hid, _, re.mono F1 S.sr, S1, h1, fun vs H2 ds st2 F2 S2 r2 h2 =>
    k _ H2 (d1 :: ds) st2 (Fr.trans F1 F2) S2 (.cons (r1.mono F2 S1.sr) r2) h2⟩⟩
def dFnK (sp : SpD) (ix : List Nat) (t : TAd) : TEd := fun e st Q => t e st fun xs st1 => sp (pick ix xs) st1 Q
/-- f(k = v, ..), all by keywords -/
theorem pd_fnK (F : FnD X.prog X.w X.K X.mg X.base k f fd ps sp) (hG : X.A.guards = some []) (hr : Room k X.A) (hg : Gl X x) (hm : X.mg x = some (.ref f)) (hk : PySem.W.keepIn X.K (.ref f) = true) (ix : List Nat)
    (hb : ∀ (s : Shared) (ws : List Value), ws.length = ks.length → BindsTo s fd ⟨[], ks.zip ws⟩ (ps.zip (pick ix ws))) (hn : (pick ix ks).length = ps.length → True) (hkw : PDK X kws t)
    (hall : (backToKw pos (keywordEach kws X.env)).all (·.1.isSome) = true := by rfl) (hks : (backToKw pos (keywordEach kws X.env)).filterMap (·.1) = ks := by rfl) (hl : ∀ us : List Value, (pick ix us).length = ps.length → us.length = ks.length)
    (hdb : (x == ("__debug__" : Str)) = false := by decide) (hpl : (backToKw pos (keywordEach kws X.env)).any (·.1.isNone) = false := by rfl) : PD X (.Call (.Name x p) [] kws pos) (dFnK sp ix t) := by
  refine ⟨fun pins s σ H Q I ⟨en, st, hid, Qd, re, S, h, g⟩ => ?_⟩
  refine wpAny_Call_Name_kw (ld_glob I hg hm (PySem.W.callWith_KW0 (h₀ := X.base) I.ok.mod.kin hk hall (thn (hkw.run pos pins s σ H (fun vs H1 => upSp X.K sp (pick ix vs) H1 Q E0) I ⟨en, st, hid, _, re, S, h, fun vs H1 ds1 st1 F1 S1 r1 h1 => ?_⟩) fun us s1 ⟨vs, H1, I1, r, q⟩ => ⟨I1.kIn, ?_⟩) hpl) hdb)
  · exact ⟨_, st1, hid, Qd, pick_pair r1 ix, S1, h1, Go.mono g F1⟩
  · rw [hks]
    exact run_fg F hG hr I1 (fun hl' => hb s1 us (hl us hl')) (pick_pair r ix) q
end
end DL
namespace DL
open PySem PySem.Spec PyProof.Rows L2
/-- the law's call, from its def's promise -/
theorem lawG {P : Program} {w : World} {K : PySem.W.Frag} {mg mb : Str → Option Value} {k : Nat} {fa a : Addr} {fd : FuncData} {x : Str} {sp : SpD} {s₁ : Shared} {vs : List Value} {ns : List Int}
    (KX : K.In s₁.heap) (hns : s₁.heap.Ns mainGlobals mg) (hbn : s₁.heap.Ns builtinsNs mb) (hbb : ∀ x : Str, x ≠ "__name__" → mb x = bootBuiltins x) (hlim : s₁.heap.NoLimit) (hgens : s₁.gens = #[])
    (ha : s₁.heap.get? a = some { cls := .type "list", data := .seq vs.toArray }) (hi : IntsAre vs ns) (hl : ns.length ≤ sizeLine) (hr : Room k callerA)
    (F : ∀ base : Heap, K.In base → base.Ns mainGlobals mg → FnD P w K mg base k fa fd [x] sp) (hbind : ∀ (s : Shared) (u : Value), BindsTo s fd ⟨[u], []⟩ [(x, u)])
    (hsp : sp [.scr ns] (fun _ => none) fun d _ => d = .d (.bool true)) :
    codeAny (model P w) callerA (.call (.ref fa) ⟨[.ref a], []⟩) (fun r s' => r = .ok (.ret (.bool true)) ∧ OldK s₁.heap s'.heap ∧ s'.os = s₁.os ∧ AllBare s'.gens) s₁ := by
  have rv := vals_ints hi
  have lenV := hi.length
  have core : ∀ H : Hp, Only H → DvD K (fun _ => none) H (.ref a) (.scr ns) → HOk P w H s₁.heap → (∀ b, H b ≠ none → b = a) → (H a ≠ none → K.lookup a = none) →
      codeAny (model P w) callerA (.call (.ref fa) ⟨[.ref a], []⟩) (fun r s' => r = .ok (.ret (.bool true)) ∧ OldK s₁.heap s'.heap ∧ s'.os = s₁.os ∧ AllBare s'.gens) s₁ := by
    intro H hO hS hok hA hK
    have only : ∀ b, H b = none ∨ b = a := fun b => by
      cases q : H b with
      | none => exact .inl rfl
      | some u => exact .inr (hA b (by rw [q]; simp))
    have base_of : ∀ {b : Addr} {o : Obj}, s₁.heap.get? b = some o → H b = none → (hidT s₁.heap H).get? b = some o := fun e n => hidT_get e n
    have noA : ∀ {b : Addr} {o : Obj} {es : Array DictEntry} {ep : Nat}, s₁.heap.get? b = some o → o.data = .dict es ep → H b = none := fun {b o es ep} e d => by
      rcases only b with z | z
      · exact z
      · subst z
        rw [ha] at e
        cases e
        exact absurd (show Data.seq vs.toArray _ = Data.dict es ep from d) (fun z => nomatch z)
    have nsK : ∀ {b : Addr} {m : Str → Option Value}, s₁.heap.Ns b m → (hidT s₁.heap H).Ns b m := fun {b m} ⟨o, es, ep, e, d, r⟩ => ⟨o, es, ep, base_of e (noA e d), d, r⟩
    have hKb : K.In (hidT s₁.heap H) := fun b o e => base_of (KX b o e) (by
      rcases only b with z | z
      · exact z
      · subst z
        cases q : H b with
        | none => rfl
        | some u =>
          rw [hK (by rw [q]; simp)] at e
          cases e)
    have hM : Mod K mg (hidT s₁.heap H) := ⟨hKb, nsK hns, ⟨mb, nsK hbn, hbb⟩, let ⟨mc, h1, h2⟩ := hlim; ⟨mc, nsK h1, h2⟩⟩
    have e0 : Env0 P w K mg (hidT s₁.heap H) callerA [] s₁ H := ⟨rfl, hM, fun b o e => of_hidT e, Nat.le_of_eq (hidT_size _ _), trivial, fun b hb => absurd (show b ∈ ([] : List Addr) from hb) (by simp), hok, .of_eq hgens⟩
    have S0 : Sx K (fun _ => none) (fun _ => none) H := ⟨fun _ _ => rfl, fun b ds z => by cases z⟩
    have hq : upSp K sp [.ref a] H (fun v _ => v = .bl true) (fun _ _ _ => False) := ⟨[.scr ns], (fun _ => none), (fun _ => none), (fun d _ => d = .d (.bool true)), .cons (show DvD K (jn (fun _ => none) (fun _ => none)) H (.ref a) (.scr ns) from hS) .nil, S0, hsp, fun v H' d st' F' S' r q => by
      subst q
      cases r with
      | d r =>
        cases r with
        | bl b => rfl⟩
    refine codeAny_mono ((F _ hKb (nsK hns)).run callerA [] s₁ H ⟨[.ref a], []⟩ [.ref a] [.ref a] _ _ rfl hr e0 (hbind s₁ (.ref a)) (.cons rfl .nil) hq) fun r s' h => ?_
    cases r with
    | error e => exact False.elim h
    | ok fl =>
      cases fl with
      | next => exact False.elim h
      | brk => exact False.elim h
      | cont => exact False.elim h
      | ret u =>
        obtain ⟨v, H', os, bare, un, hok', r', q⟩ := h
        cases (show v = .bl true from q)
        cases (show u = Value.bool true from r')
        refine ⟨rfl, OldK.of_keep fun b o e => ?_, os, bare⟩
        cases q : H b with
        | none => exact un.keep b o e q (by intro z; exact absurd (show b ∈ ([] : List Addr) from z) (by simp)) (by simp)
        | some u =>
          rcases hO b with z | ⟨ob, xs, z⟩
          · rw [q] at z
            cases z
          · obtain ⟨e1, _⟩ := hok b _ z
            obtain ⟨e2, _⟩ := hok' b _ (un.frzs b ob _ z)
            rw [e] at e1
            cases e1
            exact e2
  cases hk : K.lookup a with
  | some o =>
    have e := KX a o hk
    rw [ha] at e
    cases e
    have hS : SqL K (fun _ => none) a (ns.map V.int) := .inr ⟨_, vs.toArray, _, hk, rfl, rfl, rfl, by rw [List.size_toArray, lenV]; exact hl, by simpa using rv⟩
    exact core (fun _ => none) (fun _ => .inl rfl) (.scr hS (.inr hS)) (fun b u z => by cases z) (fun b z => absurd rfl z) fun z => absurd rfl z
  | none =>
    have h1 : ∀ {b}, b = a → (if b = a then some (HO.frz { cls := .type "list", data := .seq vs.toArray } (.lst (ns.map V.int))) else none) = some (HO.frz { cls := .type "list", data := .seq vs.toArray } (.lst (ns.map V.int))) := fun h => if_pos h
    refine core (fun b => if b = a then some (.frz { cls := .type "list", data := .seq vs.toArray } (.lst (ns.map V.int))) else none) (fun b => ?_) (.scr (.inl (.inr ⟨_, if_pos rfl⟩)) (.inl ⟨_, if_pos rfl⟩)) (fun b u z => ?_) (fun b z => ?_) fun _ => hk
    · by_cases hb : b = a
      · exact .inr ⟨_, _, if_pos hb⟩
      · exact .inl (if_neg hb)
    · by_cases hb : b = a
      · have z' := (if_pos hb).symm.trans z
        cases z'
        subst hb
        exact ⟨ha, by rw [List.length_map]; exact hl, vs, _, rv, ha⟩
      · have z' := (if_neg hb).symm.trans z
        cases z'
    · by_cases hb : b = a
      · exact hb
      · exact absurd (if_neg hb) z
/-- the goal that k_head leaves -/
theorem walkG {l : PySem.W.OpenLaw} {n k : Nat} {q : Program} {loose : List Str} {XP : (Str → Option Value) → Heap → Prop} {YP : World → Heap → Prop} {d : DefRec} {K : Params → PySem.W.Frag} {sp : SpD} {x : Str}
    (hn : l.most = some n) (hn2 : n ≤ sizeLine) (hdf : d.params.defaults = []) (hr : Room k callerA) (hY : ∀ (w : World) (h : Heap), YP w h → (K w.params).In h)
    (F : ∀ (w : World) (mg : Str → Option Value) (fa : Addr) (h : Heap), (K w.params).In h → h.Ns mainGlobals mg → mg d.name = some (.ref fa) →
      ∃ fd : FuncData, (∀ (s : Shared) (u : Value), BindsTo s fd ⟨[u], []⟩ [(x, u)]) ∧ ∀ base : Heap, (K w.params).In base → base.Ns mainGlobals mg → FnD l.prog w (K w.params) mg base k fa fd [x] sp)
    (hsp : ∀ ns : List Int, ns.length ≤ n → sp [.scr ns] (fun _ => none) fun d _ => d = .d (.bool true)) :
    PySem.W.WalkO q loose XP YP l.row.toRowW d [] (fun f vs => PySem.call f vs) := by
  refine Att.attach_call hn hdf fun w s₀ s₁ mg mb fa o pm cd doc a vs ns G Y ho hd hcd hmg hobj hints hlen hg => ?_
  obtain ⟨fd, hb, hF⟩ := F w mg fa _ (hY w _ Y) G.T.g hmg
  exact lawG (hY w _ Y) G.T.g G.T.b G.T.builtins G.T.nolimit hg hobj hints (Nat.le_trans hlen hn2) hr hF hb (hsp ns hlen)
end DL
namespace DL
open PySem PySem.Spec PyProof.Rows L2
theorem bt_len : bootBuiltins "len" = some (.builtin "len") := by decide +kernel
theorem bt_abs : bootBuiltins "abs" = some (.builtin "abs") := by decide +kernel
theorem bt_divmod : bootBuiltins "divmod" = some (.builtin "divmod") := by decide +kernel
theorem bt_all : bootBuiltins "all" = some (.builtin "all") := by decide +kernel
theorem bt_repr : bootBuiltins "repr" = some (.builtin "repr") := by decide +kernel
theorem bt_min : bootBuiltins "min" = some (.builtin "min") := by decide +kernel
theorem bt_max : bootBuiltins "max" = some (.builtin "max") := by decide +kernel
theorem bt_int : bootBuiltins "int" = some (.type "int") := by decide +kernel
theorem bt_bool : bootBuiltins "bool" = some (.type "bool") := by decide +kernel
theorem bt_str : bootBuiltins "str" = some (.type "str") := by decide +kernel
theorem bt_list : bootBuiltins "list" = some (.type "list") := by decide +kernel
theorem bt_tuple : bootBuiltins "tuple" = some (.type "tuple") := by decide +kernel
theorem bt_isinstance : bootBuiltins "isinstance" = some (.builtin "isinstance") := by decide +kernel
/-- {}, and a dict of one written pair -/
def dDict (ps : List (PyData × PyData)) : TEd := fun _ st Q => Q (.d (.dict ps)) st
theorem pd_dict0 {X : Cx} {pos : Pos} : PD X (.Dict [] [] pos) (dDict []) := PE.imp pe_dnewK fun σ H Q ⟨e, st, hid, Qd, re, S, h, k⟩ p hp =>
  Go.new k S hp (.d (.dic (kvs := []) (ps := []) upd_same (S.sr.free0 hp) .nil .nil)) h
theorem pd_dict1 {X : Cx} {pos p1 p2 : Pos} {x : Str} {i : Int} {j j2 : Nat} : PD X (.Dict [some (.Constant (.str x) j p1)] [.Constant (.int i) j2 p2] pos) (dDict [(.str x, .int i)]) :=
  PE.imp (pe_disp (pps_cons pe_str pe_int pps_nil) rfl rfl (by simp) (by show 1 ≤ 15; omega)) fun σ H Q ⟨e, st, hid, Qd, re, S, h, k⟩ p hp => by
    refine ⟨upd_same, [(Sum.inr x, .int i)], rfl, by show 1 ≤ 15; omega, ?_⟩
    rw [upd_upd]
    exact Go.new k S hp (.d (.dic (kvs := [(Sum.inr x, .int i)]) (ps := [(.str x, .int i)]) upd_same (S.sr.free0 hp) (.cons (.str x) .nil) (.cons (.int i) .nil))) h
theorem u65 {k : Nat} {A : Around} (r : Room k A) : A.units + 65 < cLine := by
  have := r.un
  omega
/-- a def of the text, callable with a promise -/
structure Can (P : Program) (w : World) (K : PySem.W.Frag) (mg : Str → Option Value) (base : Heap) (k : Nat) (x : Str) (st : Stmt) (ps : List Str) (sp : SpD) : Prop where
  ex : ∃ f fd, FnD P w K mg base k f fd ps sp ∧ mg x = some (.ref f) ∧ Fun K x x st f fd ∧ Binds K fd ps []
/-- where it stands -/
structure Has (K : PySem.W.Frag) (mg : Str → Option Value) (x : Str) (st : Stmt) : Prop where
  ex : ∃ f fd, mg x = some (.ref f) ∧ Fun K x x st f fd
section
variable {P : Program} {w : World} {K : PySem.W.Frag} {mg : Str → Option Value} {base : Heap}
theorem can_of {x : Str} {st : Stmt} {N ps : List Str} {k : Nat} {sp : SpD} {t : TSd} (F : Has K mg x st) (S : FnScope N ps (defScope st)) (len : ∀ ds s Q, sp ds s Q → ds.length = ps.length)
    (bind : ∀ (kV doc pm : Value) (an : Option Addr) (cdv ct : Value) (us : List Value), us.length = ps.length → bindArgs (PySem.W.fnOf x x (defArgs st) (defBody st) (defScope st) .none kV doc pm an cdv ct) ⟨us, []⟩ = pure (ps.zip us))
    (hbody : ∀ (f : Addr) (cd : Value) (A : Around) (outer : List Env) (s : Shared) (H : Hp) (E : XK), A.guards = some [] → Room k (A.deeper (envOfC x (defScope st) s.heap.objs.size f cd)) → PDSs (cxD P w K mg base N x (defScope st) f cd A outer s H E) (defBody st) t)
    (hsp : ∀ ds s Q, sp ds s Q → t { nx := fun _ s' => Q (.d .none) s', rt := Q } (startD N ds) s) : Can P w K mg base (k + 1) x st ps sp := by
  obtain ⟨f, fd, hm, F⟩ := F.ex
  exact ⟨f, fd, fnD_ok F S len (hbody f) hsp, hm, F, F.binds bind⟩
theorem Can.imp {x : Str} {st : Stmt} {ps : List Str} {k : Nat} {sp sp' : SpD} (C : Can P w K mg base k x st ps sp) (i : ∀ ds st Q, sp' ds st Q → sp ds st Q) : Can P w K mg base k x st ps sp' := by
  obtain ⟨f, fd, F, h⟩ := C.ex
  exact ⟨f, fd, FnD.imp F i, h⟩
theorem Can.lift {x : Str} {st : Stmt} {ps : List Str} {j k : Nat} {sp : SpD} (C : Can P w K mg base j x st ps sp) (h : j ≤ k) : Can P w K mg base k x st ps sp := by
  obtain ⟨f, fd, F, h'⟩ := C.ex
  exact ⟨f, fd, FnG.mono F h, h'⟩
end
section
variable {X : Cx} {k : Nat} {ps ks : List Str} {sp : SpD} {x : Str} {st : Stmt} {p pos : Pos} {e : Expr} {es : List Expr} {kws : List Keyword} {t tk : TAd}
def dFn0 (sp : SpD) (t : TAd) : TEd := fun e st Q => t e st fun xs st1 => sp xs st1 Q
theorem pd_call (C : Can X.prog X.w X.K X.mg X.base k x st ps sp) (hG : X.A.guards = some []) (hr : Room k X.A) (hg : Gl X x) (ha : PDA X (e :: es) t) (hdb : (x == ("__debug__" : Str)) = false := by decide)
    (he : starEach (e :: es) X.env = (false, eval e X.env) :: starEach es X.env := by rfl) (hpl : (backTo pos (starEach es X.env)).any (·.1) = false := by rfl) : PD X (.Call (.Name x p) (e :: es) [] pos) (dFn0 sp t) := by
  obtain ⟨f, fd, F, hm, Fn, B⟩ := C.ex
  refine PE.imp (pd_fn (dds := []) F hG hr hg hm Fn.kp B ⟨[], .nil, fun _ _ => .nil⟩ ha hdb he hpl) fun σ H Q ⟨e, s, hid, Qd, re, S, h, k⟩ => ⟨e, s, hid, Qd, re, S, ?_, k⟩
  have ee : (fun xs st1 => sp (xs ++ []) st1 Qd) = fun xs st1 => sp xs st1 Qd := by
    funext xs st1
    rw [List.append_nil]
  show t e s (fun xs st1 => sp (xs ++ []) st1 Qd)
  rw [ee]
  exact h
theorem pd_callK (C : Can X.prog X.w X.K X.mg X.base k x st ps sp) (hG : X.A.guards = some []) (hr : Room k X.A) (hg : Gl X x) (ix : List Nat)
    (hb : ∀ (kV doc pm : Value) (an : Option Addr) (cdv ct : Value) (ws : List Value), ws.length = ks.length → bindArgs (PySem.W.fnOf x x (defArgs st) (defBody st) (defScope st) .none kV doc pm an cdv ct) ⟨[], ks.zip ws⟩ = pure (ps.zip (pick ix ws)))
    (hkw : PDK X kws t)
    (hall : (backToKw pos (keywordEach kws X.env)).all (·.1.isSome) = true := by rfl) (hks : (backToKw pos (keywordEach kws X.env)).filterMap (·.1) = ks := by rfl)
    (hdb : (x == ("__debug__" : Str)) = false := by decide) (hpl : (backToKw pos (keywordEach kws X.env)).any (·.1.isNone) = false := by rfl) (hlen : ∀ e s Q, t e s Q → t e s fun xs s' => xs.length = ks.length ∧ Q xs s') : PD X (.Call (.Name x p) [] kws pos) (dFnK sp ix t) := by
  obtain ⟨f, fd, F, hm, Fn, B⟩ := C.ex
  obtain ⟨oc, od, kV, doc, pm, an, cd, ct, osl, rfl, lk, hcd⟩ := Fn.ex
  refine ⟨fun pins s σ H Q I ⟨en, sd, hid, Qd, re, S, h, g⟩ => ?_⟩
  refine wpAny_Call_Name_kw (ld_glob I hg hm (PySem.W.callWith_KW0 (h₀ := X.base) I.ok.mod.kin Fn.kp hall (thn (hkw.run pos pins s σ H (fun vs H1 => vs.length = ks.length ∧ upSp X.K sp (pick ix vs) H1 Q E0) I ⟨en, sd, hid, _, re, S, hlen _ _ _ h, fun vs H1 ds1 st1 F1 S1 r1 ⟨hl1, h1⟩ => ?_⟩) fun us s1 ⟨vs, H1, I1, r, hl, q⟩ => ⟨I1.kIn, ?_⟩) hpl) hdb)
  · exact ⟨(Paired.length r1).trans hl1, _, st1, hid, Qd, pick_pair r1 ix, S1, h1, Go.mono g F1⟩
  · rw [hks]
    exact run_fg F hG hr I1 (fun _ => .of_eq (hb kV doc pm an cd ct us (by rw [← r.length]; exact hl))) (pick_pair r ix) q
end
end DL
namespace DL
open PySem PySem.Spec PyProof.Rows L2
/-! ### readings, run -/
theorem frz_d {Q : Kd} {x : PyData} {st : Sto} : frz Q (.d x) st = Q (.d x) st := propext ⟨fun h => h.elim _root_.id fun ⟨a, xs, z, _⟩ => (nomatch z), .inl⟩
theorem var_zero {d : D} {e : Ed} {st : Sto} {Q : Kd} : dVar 0 (some d :: e) st Q = Q d st := propext ⟨fun ⟨d', h, q⟩ => by
  cases h
  exact q, fun q => ⟨d, rfl, q⟩⟩
theorem var_succ {n : Nat} {x : Option D} {e : Ed} {st : Sto} {Q : Kd} : dVar (n + 1) (x :: e) st Q = dVar n e st Q := rfl
theorem var_set {i : Nat} {d : D} {e : Ed} {st : Sto} {Q : Kd} (h : i < e.length) : dVar i (e.set i (some d)) st Q = Q d st := propext ⟨fun ⟨d', h', q⟩ => by
  rw [List.getElem?_set_self h] at h'
  cases h'
  exact q, fun q => ⟨d, List.getElem?_set_self h, q⟩⟩
theorem var_ne {i j : Nat} {x : Option D} {e : Ed} {st : Sto} {Q : Kd} (h : j ≠ i) : dVar i (e.set j x) st Q = dVar i e st Q := by
  unfold dVar
  rw [List.getElem?_set_ne h]
theorem nil_go {e : Ed} {st : Sto} {Q : Ed → Sto → Prop} : hNil [] e st Q = Q e st := propext ⟨fun h => h.2, fun h => ⟨rfl, h⟩⟩
theorem put_put {st : Sto} {a : Addr} {xs ys : List D} : put (put st a xs) a ys = put st a ys := by
  funext b
  by_cases h : b = a
  · rw [h, put_same, put_same]
  · rw [put_ne h, put_ne h, put_ne h]
theorem own_some {d : PyData} {st : Sto} : (∀ a, D.d d = .own a → (st a).isSome = true) = True := propext ⟨fun _ => trivial, fun _ a z => nomatch z⟩
theorem kit_all {T : String} (hT : ∀ t ∈ ["NoneType", "bool", "int", "str", "tuple", "dict", "list"], (kitB t T).isSome = true) (d : D) : (kitB (tyD d) T).isSome = true := by
  refine hT _ ?_
  cases d with
  | own a => simp [tyD]
  | scr ns => simp [tyD]
  | d x => cases x <;> simp [tyD]
theorem kit_int (d : D) : ((kitB (tyD d) "int").isSome = true) = True := eq_true (kit_all (by decide +kernel) d)
theorem kit_bool (d : D) : ((kitB (tyD d) "bool").isSome = true) = True := eq_true (kit_all (by decide +kernel) d)
theorem kit_tuple (d : D) : ((kitB (tyD d) "tuple").isSome = true) = True := eq_true (kit_all (by decide +kernel) d)
theorem kit_str (d : D) : ((kitB (tyD d) "str").isSome = true) = True := eq_true (kit_all (by decide +kernel) d)
theorem is_int (x : PyData) : isT "int" (.d x) = match x with
    | .int _ => true
    | .bool _ => true
    | _ => false := by
  cases x with
  | none => exact (by decide +kernel : (kitB "NoneType" "int").getD false = false)
  | bool _ => exact (by decide +kernel : (kitB "bool" "int").getD false = true)
  | int _ => exact (by decide +kernel : (kitB "int" "int").getD false = true)
  | str _ => exact (by decide +kernel : (kitB "str" "int").getD false = false)
  | list _ => exact (by decide +kernel : (kitB "list" "int").getD false = false)
  | tuple _ => exact (by decide +kernel : (kitB "tuple" "int").getD false = false)
  | dict _ => exact (by decide +kernel : (kitB "dict" "int").getD false = false)
theorem is_bool (x : PyData) : isT "bool" (.d x) = match x with
    | .bool _ => true
    | _ => false := by
  cases x with
  | none => exact (by decide +kernel : (kitB "NoneType" "bool").getD false = false)
  | bool _ => exact (by decide +kernel : (kitB "bool" "bool").getD false = true)
  | int _ => exact (by decide +kernel : (kitB "int" "bool").getD false = false)
  | str _ => exact (by decide +kernel : (kitB "str" "bool").getD false = false)
  | list _ => exact (by decide +kernel : (kitB "list" "bool").getD false = false)
  | tuple _ => exact (by decide +kernel : (kitB "tuple" "bool").getD false = false)
  | dict _ => exact (by decide +kernel : (kitB "dict" "bool").getD false = false)
theorem is_tuple (x : PyData) : isT "tuple" (.d x) = match x with
    | .tuple _ => true
    | _ => false := by
  cases x with
  | none => exact (by decide +kernel : (kitB "NoneType" "tuple").getD false = false)
  | bool _ => exact (by decide +kernel : (kitB "bool" "tuple").getD false = false)
  | int _ => exact (by decide +kernel : (kitB "int" "tuple").getD false = false)
  | str _ => exact (by decide +kernel : (kitB "str" "tuple").getD false = false)
  | list _ => exact (by decide +kernel : (kitB "list" "tuple").getD false = false)
  | tuple _ => exact (by decide +kernel : (kitB "tuple" "tuple").getD false = true)
  | dict _ => exact (by decide +kernel : (kitB "dict" "tuple").getD false = false)
theorem is_str (x : PyData) : isT "str" (.d x) = match x with
    | .str _ => true
    | _ => false := by
  cases x with
  | none => exact (by decide +kernel : (kitB "NoneType" "str").getD false = false)
  | bool _ => exact (by decide +kernel : (kitB "bool" "str").getD false = false)
  | int _ => exact (by decide +kernel : (kitB "int" "str").getD false = false)
  | str _ => exact (by decide +kernel : (kitB "str" "str").getD false = true)
  | list _ => exact (by decide +kernel : (kitB "list" "str").getD false = false)
  | tuple _ => exact (by decide +kernel : (kitB "tuple" "str").getD false = false)
  | dict _ => exact (by decide +kernel : (kitB "dict" "str").getD false = false)
theorem line_small {n : Nat} (h : n ≤ 1000) : (n ≤ sizeLine) = True := eq_true (Nat.le_trans h (by decide))
theorem pures_nil : pures [] = some [] := rfl
theorem pures_cons {x : PyData} {r : List D} : pures (.d x :: r) = (pures r).map (x :: ·) := rfl
theorem no_own {p : Prop} : (∀ a : Addr, False → p) = True := propext ⟨fun _ => trivial, fun _ _ z => z.elim⟩
theorem no_own2 {p : Addr → Prop} : (∀ a : Addr, False → p a) = True := propext ⟨fun _ => trivial, fun _ _ z => z.elim⟩
theorem eqv_int {i j : Int} : (PyData.int i).eqv (.int j) = decide (i = j) := by
  show (i == j) = _
  rw [Bool.eq_iff_iff]
  simp
theorem sh_int {i : Int} : (SeqAt.shaped (.int i) = true) = True := eq_true (by simp [SeqAt.shaped, PyData.canLay0, PyData.depth])
theorem sh_bool {i : Bool} : (SeqAt.shaped (.bool i) = true) = True := eq_true (by simp [SeqAt.shaped, PyData.canLay0, PyData.depth])
theorem ixt_0 {a : PyData} {r : List PyData} {st : Sto} {Q : Kd} : rIxD (.d (.tuple (a :: r))) (.d (.int 0)) st Q = Q (.d a) st := propext ⟨fun h => by
  obtain ⟨v, h, q⟩ := h
  have e : atI (a :: r) 0 = some a := atI_nat (j := 0) rfl
  rw [e] at h
  cases h
  exact q, fun q => ⟨_, atI_nat (j := 0) rfl, q⟩⟩
theorem ixl_0 {a : PyData} {r : List PyData} {st : Sto} {Q : Kd} : rIxD (.d (.list (a :: r))) (.d (.int 0)) st Q = Q (.d a) st := propext ⟨fun h => by
  obtain ⟨ds, v, e, h, q⟩ := h
  cases e
  have e : atI ((a :: r).map D.d) 0 = some (D.d a) := atI_nat (j := 0) rfl
  rw [e] at h
  cases h
  exact q, fun q => ⟨_, _, rfl, atI_nat (j := 0) rfl, q⟩⟩
theorem ixt_1 {a b : PyData} {r : List PyData} {st : Sto} {Q : Kd} : rIxD (.d (.tuple (a :: b :: r))) (.d (.int 1)) st Q = Q (.d b) st := propext ⟨fun h => by
  obtain ⟨v, h, q⟩ := h
  have e : atI (a :: b :: r) 1 = some b := atI_nat (j := 1) rfl
  rw [e] at h
  cases h
  exact q, fun q => ⟨_, atI_nat (j := 1) rfl, q⟩⟩
theorem ixl_1 {a b : PyData} {r : List PyData} {st : Sto} {Q : Kd} : rIxD (.d (.list (a :: b :: r))) (.d (.int 1)) st Q = Q (.d b) st := propext ⟨fun h => by
  obtain ⟨ds, v, e, h, q⟩ := h
  cases e
  have e : atI ((a :: b :: r).map D.d) 1 = some (D.d b) := atI_nat (j := 1) rfl
  rw [e] at h
  cases h
  exact q, fun q => ⟨_, _, rfl, atI_nat (j := 1) rfl, q⟩⟩
theorem ixt_2 {a b c : PyData} {r : List PyData} {st : Sto} {Q : Kd} : rIxD (.d (.tuple (a :: b :: c :: r))) (.d (.int 2)) st Q = Q (.d c) st := propext ⟨fun h => by
  obtain ⟨v, h, q⟩ := h
  have e : atI (a :: b :: c :: r) 2 = some c := atI_nat (j := 2) rfl
  rw [e] at h
  cases h
  exact q, fun q => ⟨_, atI_nat (j := 2) rfl, q⟩⟩
theorem ixl_2 {a b c : PyData} {r : List PyData} {st : Sto} {Q : Kd} : rIxD (.d (.list (a :: b :: c :: r))) (.d (.int 2)) st Q = Q (.d c) st := propext ⟨fun h => by
  obtain ⟨ds, v, e, h, q⟩ := h
  cases e
  have e : atI ((a :: b :: c :: r).map D.d) 2 = some (D.d c) := atI_nat (j := 2) rfl
  rw [e] at h
  cases h
  exact q, fun q => ⟨_, _, rfl, atI_nat (j := 2) rfl, q⟩⟩
theorem ixt_3 {a b c d : PyData} {r : List PyData} {st : Sto} {Q : Kd} : rIxD (.d (.tuple (a :: b :: c :: d :: r))) (.d (.int 3)) st Q = Q (.d d) st := propext ⟨fun h => by
  obtain ⟨v, h, q⟩ := h
  have e : atI (a :: b :: c :: d :: r) 3 = some d := atI_nat (j := 3) rfl
  rw [e] at h
  cases h
  exact q, fun q => ⟨_, atI_nat (j := 3) rfl, q⟩⟩
theorem ixl_3 {a b c d : PyData} {r : List PyData} {st : Sto} {Q : Kd} : rIxD (.d (.list (a :: b :: c :: d :: r))) (.d (.int 3)) st Q = Q (.d d) st := propext ⟨fun h => by
  obtain ⟨ds, v, e, h, q⟩ := h
  cases e
  have e : atI ((a :: b :: c :: d :: r).map D.d) 3 = some (D.d d) := atI_nat (j := 3) rfl
  rw [e] at h
  cases h
  exact q, fun q => ⟨_, _, rfl, atI_nat (j := 3) rfl, q⟩⟩
theorem ixt_4 {a b c d e : PyData} {r : List PyData} {st : Sto} {Q : Kd} : rIxD (.d (.tuple (a :: b :: c :: d :: e :: r))) (.d (.int 4)) st Q = Q (.d e) st := propext ⟨fun h => by
  obtain ⟨v, h, q⟩ := h
  have e : atI (a :: b :: c :: d :: e :: r) 4 = some e := atI_nat (j := 4) rfl
  rw [e] at h
  cases h
  exact q, fun q => ⟨_, atI_nat (j := 4) rfl, q⟩⟩
theorem ixl_4 {a b c d e : PyData} {r : List PyData} {st : Sto} {Q : Kd} : rIxD (.d (.list (a :: b :: c :: d :: e :: r))) (.d (.int 4)) st Q = Q (.d e) st := propext ⟨fun h => by
  obtain ⟨ds, v, e, h, q⟩ := h
  cases e
  have e : atI ((a :: b :: c :: d :: e :: r).map D.d) 4 = some (D.d e) := atI_nat (j := 4) rfl
  rw [e] at h
  cases h
  exact q, fun q => ⟨_, _, rfl, atI_nat (j := 4) rfl, q⟩⟩
/-- a comprehension whose element is a function of the item -/
theorem lcV_pure {ti : TId} {i : Nat} {te : TEd} {e : Ed} {st : Sto} {Q : Kd} (xs : List D) (f : D → PyData) (hti : ∀ R : ItD → Sto → Prop, R ⟨xs, none⟩ st → ti e st R) (hl : xs.length < sizeLine)
    (hf : ∀ d ∈ xs, ∀ K : Kd, K (.d (f d)) st → te (e.set i (some d)) st K) (q : Q (.d (.list (xs.map f))) st) : dLcV ti i dYes te e st Q := by
  refine hti _ ⟨fun j acc st' => st' = st ∧ j ≤ xs.length ∧ acc = (xs.take j).map fun d => D.d (f d), ⟨rfl, Nat.zero_le _, rfl⟩, ?_⟩
  rintro j acc st' ⟨rfl, hj, rfl⟩
  refine ⟨(fun a ds z => nomatch z), fun hd => ?_, fun d hd => ?_⟩
  · have e1 : xs.take j = xs := List.take_of_length_le hd
    rw [e1]
    refine ⟨xs.map f, ?_, q⟩
    rw [show (xs.map fun d => D.d (f d)) = (xs.map f).map D.d by rw [List.map_map]; rfl]
    exact pures_map _
  · have hd' : xs[j]? = some d := hd
    have hlt : j < xs.length := (List.getElem?_eq_some_iff.mp hd').1
    refine (show dYes (e.set i (some d)) st' (fun b s2 => if b = true then te (e.set i (some d)) s2 _ else _) from ?_)
    refine hf d (List.mem_of_getElem? hd') _ ⟨?_, rfl, hlt, ?_⟩
    · rw [List.length_map, List.length_take]
      omega
    · rw [List.take_add_one, hd', List.map_append]
      rfl
/-! ### written data -/
def Val (te : TEd) (e : Ed) : Prop := ∃ x, ∀ st Q, Q (.d x) st → te e st Q
def Vls (t : TAd) (e : Ed) (n : Nat) : Prop := ∃ xs : List PyData, xs.length = n ∧ ∀ st Q, Q (xs.map D.d) st → t e st Q
theorem val_c {x : PyData} {e : Ed} : Val (dC x) e := ⟨x, fun _ _ q => q⟩
theorem val_dict {ps : List (PyData × PyData)} {e : Ed} : Val (dDict ps) e := ⟨.dict ps, fun _ _ q => q⟩
theorem val_var {i : Nat} {x : PyData} {e : Ed} (h : e[i]? = some (some (.d x))) : Val (dVar i) e := ⟨x, fun _ _ q => ⟨_, h, q⟩⟩
theorem val_neg {i : Int} {e : Ed} : Val (dNeg (dC (.int i))) e := ⟨.int (-i), fun _ _ q => q⟩
theorem val_pow {i j : Int} {e : Ed} (h : CPow i j) : Val (dBin rPowD (dC (.int i)) (dC (.int j))) e := ⟨.int (i ^ j.toNat), fun _ _ q => ⟨h, q⟩⟩
theorem vls_nil {e : Ed} : Vls dNil e 0 := ⟨[], rfl, fun _ _ q => q⟩
theorem vls_cons {te : TEd} {t : TAd} {e : Ed} {n : Nat} (h : Val te e) (r : Vls t e n) : Vls (dCons te t) e (n + 1) := by
  obtain ⟨x, hx⟩ := h
  obtain ⟨xs, hl, hr⟩ := r
  exact ⟨x :: xs, by rw [List.length_cons, hl], fun st Q q => hx _ _ (hr _ _ q)⟩
theorem val_tup {t : TAd} {e : Ed} {n : Nat} (r : Vls t e n) (hn : n ≤ 1000) : Val (dTup t) e := by
  obtain ⟨xs, hl, hr⟩ := r
  refine ⟨.tuple xs, fun st Q q => hr _ _ ?_⟩
  show match pures (xs.map D.d) with
    | some ys => (xs.map D.d).length ≤ sizeLine ∧ Q (.d (.tuple ys)) st
    | none => False
  rw [pures_map]
  exact ⟨by rw [List.length_map, hl]; exact Nat.le_trans hn (by decide), q⟩
theorem val_lst {t : TAd} {e : Ed} {n : Nat} (r : Vls t e n) (hn : n ≤ 1000) : Val (dLst t) e := by
  obtain ⟨xs, hl, hr⟩ := r
  exact ⟨.list xs, fun st Q q => hr _ _ ⟨by rw [List.length_map, hl]; exact Nat.le_trans hn (by decide), .inl ⟨xs, pures_map xs, q⟩⟩⟩
theorem val_lstV {t : TAd} {e : Ed} {n : Nat} (r : Vls t e n) (hn : n ≤ 1000) : Val (dLstV t) e := by
  obtain ⟨xs, hl, hr⟩ := r
  refine ⟨.list xs, fun st Q q => hr _ _ ?_⟩
  show match pures (xs.map D.d) with
    | some ys => (xs.map D.d).length ≤ sizeLine ∧ Q (.d (.list ys)) st
    | none => False
  rw [pures_map]
  exact ⟨by rw [List.length_map, hl]; exact Nat.le_trans hn (by decide), q⟩
theorem lstV_then {t : TAd} {e : Ed} {st : Sto} {Q : Kd} {n : Nat} (r : Vls t e n) (hn : n ≤ 1000) (h : ∀ xs : List PyData, xs.length = n → Q (.d (.list xs)) st) : dLstV t e st Q := by
  obtain ⟨xs, hl, hr⟩ := r
  refine hr _ _ ?_
  show match pures (xs.map D.d) with
    | some ys => (xs.map D.d).length ≤ sizeLine ∧ Q (.d (.list ys)) st
    | none => False
  rw [pures_map]
  exact ⟨by rw [List.length_map, hl]; exact Nat.le_trans hn (by decide), h xs hl⟩
theorem lst_then {t : TAd} {e : Ed} {st : Sto} {Q : Kd} {n : Nat} (r : Vls t e n) (hn : n ≤ 1000) (h : ∀ xs : List PyData, xs.length = n → Q (.d (.list xs)) st) : dLst t e st Q := by
  obtain ⟨xs, hl, hr⟩ := r
  exact hr _ _ ⟨by rw [List.length_map, hl]; exact Nat.le_trans hn (by decide), .inl ⟨xs, pures_map xs, h xs hl⟩⟩
end DL
local macro_rules | `(tactic| walk_at "val") => `(tactic| repeat' (first | exact DL.vls_nil | apply DL.vls_cons | exact DL.val_c | exact DL.val_dict | exact DL.val_neg | exact DL.val_var rfl | apply DL.val_tup | apply DL.val_lst | apply DL.val_lstV | exact DL.val_pow ⟨by decide, by decide, by decide⟩ | decide))
local macro_rules | `(tactic| walk_at "st") => `(tactic| simp only [DL.startD, List.map_cons, List.map_nil, List.length_cons, List.length_nil, Nat.reduceAdd, Nat.reduceSub, List.replicate_succ, List.replicate_zero, List.cons_append, List.nil_append, List.append_nil, Nat.sub_self, Nat.zero_add])
local macro_rules | `(tactic| walk_at "go") => `(tactic| simp only [↓DL.dSeq, ↓DL.dNext, ↓DL.dAsg, ↓DL.dRet, ↓DL.dRetN, ↓DL.dIfS, ↓DL.dDrop, ↓DL.dBin, ↓DL.dCons, ↓DL.dNil, ↓DL.dTup, ↓DL.dC, ↓DL.dNeg, ↓DL.dAnd, ↓DL.dOr, ↓DL.dNot, ↓DL.dIf, ↓DL.dTst, ↓DL.asB, ↓DL.dChain, ↓DL.dAndT, ↓DL.dOrT, ↓DL.dNotT, ↓DL.dCall, ↓DL.dFn0, ↓DL.dFnK, ↓DL.dIs, ↓DL.dSl, ↓DL.dNoP, ↓DL.dPart, ↓DL.dRev, ↓DL.dLst, ↓DL.dLstV, ↓DL.cListV, ↓DL.dDict, ↓DL.dPar, ↓DL.dPar3, ↓DL.hTup, ↓DL.hCons, ↓DL.nil_go, ↓DL.hName, ↓DL.hSub, ↓DL.rI2, ↓DL.rSubD, ↓DL.rMulD, ↓DL.rDivD, ↓DL.rModD, ↓DL.rPowD, ↓DL.rLtD, ↓DL.rLeD, ↓DL.rGtD, ↓DL.rGeD, ↓DL.rAddD, ↓DL.ixt_0, ↓DL.ixt_1, ↓DL.ixt_2, ↓DL.ixt_3, ↓DL.ixt_4, ↓DL.ixl_0, ↓DL.ixl_1, ↓DL.ixl_2, ↓DL.ixl_3, ↓DL.ixl_4, ↓DL.rEqV, ↓DL.rNeV, ↓DL.rSlD, ↓DL.cLen, ↓DL.cAbs, ↓DL.cInt, ↓DL.cStrI, ↓DL.cDivmod, ↓DL.cMin, ↓DL.cMax, ↓DL.cGcd, ↓DL.cLcm, ↓DL.cAll, ↓DL.cRepr, ↓DL.cList, ↓DL.cTuple, ↓DL.rC1, ↓DL.rC2, ↓DL.dNever, ↓DL.dIter, ↓DL.dRng1, ↓DL.dRng2, ↓DL.dYes,
  ↓DL.frz_d, ↓DL.var_zero, ↓DL.var_succ, ↓DL.var_set, ↓DL.var_ne, DL.own_some, DL.no_own2, DL.eqv_int, DL.sh_int, DL.sh_bool, DL.kit_int, DL.kit_bool, DL.kit_tuple, DL.kit_str, DL.is_int, DL.is_bool, DL.is_tuple, DL.is_str, DL.pures_nil, DL.pures_cons, Option.map_some, List.length_cons, List.length_nil, List.length_set, List.map_cons, List.map_nil, DL.pick, List.filterMap_cons, List.filterMap_nil,
  true_and, and_true, ite_true, ite_false, if_true, if_false, reduceIte, reduceCtorEq, ne_eq, not_false_eq_true, Nat.reduceAdd, Nat.reduceLT, Nat.reduceEqDiff, decide_eq_true_eq, Bool.not_true, Bool.not_false, Bool.false_eq_true, eq_self])
namespace K02
open PySem PySem.Spec PyProof.Rows L2 DL
def topS (i : Nat) : Stmt := PySem.Challenge.pw_bentalike_k02_points_and_segments_of_any.main.body.getD i (.Pass ⟨0, 0, 0, 0⟩)
abbrev s_is_whole : Stmt := topS 6
abbrev N_is_whole : List Str := ["value"]
theorem sc_is_whole : FnScope N_is_whole ["value"] (defScope s_is_whole) := ⟨rfl, rfl, rfl, by decide +kernel, rfl, by decide +kernel, by decide +kernel⟩
abbrev s_is_row : Stmt := topS 7
abbrev N_is_row : List Str := ["value", "low", "high"]
theorem sc_is_row : FnScope N_is_row ["value", "low", "high"] (defScope s_is_row) := ⟨rfl, rfl, rfl, by decide +kernel, rfl, by decide +kernel, by decide +kernel⟩
abbrev s_is_fraction : Stmt := topS 8
abbrev N_is_fraction : List Str := ["value"]
theorem sc_is_fraction : FnScope N_is_fraction ["value"] (defScope s_is_fraction) := ⟨rfl, rfl, rfl, by decide +kernel, rfl, by decide +kernel, by decide +kernel⟩
abbrev s_is_place : Stmt := topS 9
abbrev N_is_place : List Str := ["value"]
theorem sc_is_place : FnScope N_is_place ["value"] (defScope s_is_place) := ⟨rfl, rfl, rfl, by decide +kernel, rfl, by decide +kernel, by decide +kernel⟩
abbrev s_is_stretch : Stmt := topS 10
abbrev N_is_stretch : List Str := ["value"]
theorem sc_is_stretch : FnScope N_is_stretch ["value"] (defScope s_is_stretch) := ⟨rfl, rfl, rfl, by decide +kernel, rfl, by decide +kernel, by decide +kernel⟩
abbrev s_check_point : Stmt := topS 12
abbrev N_check_point : List Str := ["value"]
theorem sc_check_point : FnScope N_check_point ["value"] (defScope s_check_point) := ⟨rfl, rfl, rfl, by decide +kernel, rfl, by decide +kernel, by decide +kernel⟩
abbrev s_check_segment : Stmt := topS 13
abbrev N_check_segment : List Str := ["value"]
theorem sc_check_segment : FnScope N_check_segment ["value"] (defScope s_check_segment) := ⟨rfl, rfl, rfl, by decide +kernel, rfl, by decide +kernel, by decide +kernel⟩
abbrev s_sign : Stmt := topS 15
abbrev N_sign : List Str := ["number"]
theorem sc_sign : FnScope N_sign ["number"] (defScope s_sign) := ⟨rfl, rfl, rfl, by decide +kernel, rfl, by decide +kernel, by decide +kernel⟩
abbrev s_is_less : Stmt := topS 16
abbrev N_is_less : List Str := ["first", "second"]
theorem sc_is_less : FnScope N_is_less ["first", "second"] (defScope s_is_less) := ⟨rfl, rfl, rfl, by decide +kernel, rfl, by decide +kernel, by decide +kernel⟩
abbrev s_is_ahead : Stmt := topS 17
abbrev N_is_ahead : List Str := ["first", "second"]
theorem sc_is_ahead : FnScope N_is_ahead ["first", "second"] (defScope s_is_ahead) := ⟨rfl, rfl, rfl, by decide +kernel, rfl, by decide +kernel, by decide +kernel⟩
abbrev s_scaled : Stmt := topS 18
abbrev N_scaled : List Str := ["point", "x", "x_lower", "y", "y_lower", "w"]
theorem sc_scaled : FnScope N_scaled ["point"] (defScope s_scaled) := ⟨rfl, rfl, rfl, by decide +kernel, rfl, by decide +kernel, by decide +kernel⟩
abbrev s_crossed : Stmt := topS 19
abbrev N_crossed : List Str := ["first", "second"]
theorem sc_crossed : FnScope N_crossed ["first", "second"] (defScope s_crossed) := ⟨rfl, rfl, rfl, by decide +kernel, rfl, by decide +kernel, by decide +kernel⟩
abbrev s_along : Stmt := topS 20
abbrev N_along : List Str := ["line", "triple"]
theorem sc_along : FnScope N_along ["line", "triple"] (defScope s_along) := ⟨rfl, rfl, rfl, by decide +kernel, rfl, by decide +kernel, by decide +kernel⟩
abbrev s_side_of : Stmt := topS 22
abbrev N_side_of : List Str := ["first", "second", "third"]
theorem sc_side_of : FnScope N_side_of ["first", "second", "third"] (defScope s_side_of) := ⟨rfl, rfl, rfl, by decide +kernel, rfl, by decide +kernel, by decide +kernel⟩
abbrev s_in_order : Stmt := topS 23
abbrev N_in_order : List Str := ["segment", "first", "second"]
theorem sc_in_order : FnScope N_in_order ["segment"] (defScope s_in_order) := ⟨rfl, rfl, rfl, by decide +kernel, rfl, by decide +kernel, by decide +kernel⟩
abbrev s_lies_on : Stmt := topS 24
abbrev N_lies_on : List Str := ["segment", "point", "low", "high"]
theorem sc_lies_on : FnScope N_lies_on ["segment", "point"] (defScope s_lies_on) := ⟨rfl, rfl, rfl, by decide +kernel, rfl, by decide +kernel, by decide +kernel⟩
abbrev s_is_point : Stmt := topS 26
abbrev N_is_point : List Str := ["value"]
theorem sc_is_point : FnScope N_is_point ["value"] (defScope s_is_point) := ⟨rfl, rfl, rfl, by decide +kernel, rfl, by decide +kernel, by decide +kernel⟩
abbrev s_turn_of : Stmt := topS 27
abbrev N_turn_of : List Str := ["point", "other", "third"]
theorem sc_turn_of : FnScope N_turn_of ["point", "other", "third"] (defScope s_turn_of) := ⟨rfl, rfl, rfl, by decide +kernel, rfl, by decide +kernel, by decide +kernel⟩
abbrev s_is_on : Stmt := topS 28
abbrev N_is_on : List Str := ["segment", "point"]
theorem sc_is_on : FnScope N_is_on ["segment", "point"] (defScope s_is_on) := ⟨rfl, rfl, rfl, by decide +kernel, rfl, by decide +kernel, by decide +kernel⟩
abbrev s_spring : Stmt := topS 30
abbrev N_spring : List Str := ["_law_script", "_law_turn", "_law_mixed", "_law_cell", "_law_own_here"]
theorem sc_spring : FnScope N_spring ["_law_script", "_law_turn"] (defScope s_spring) := ⟨rfl, rfl, rfl, by decide +kernel, rfl, by decide +kernel, by decide +kernel⟩
abbrev s_draw : Stmt := topS 31
abbrev N_draw : List Str := ["_law_spring_here", "_law_many", "_law_digit", "_law_seed"]
theorem sc_draw : FnScope N_draw ["_law_spring_here", "_law_many"] (defScope s_draw) := ⟨rfl, rfl, rfl, by decide +kernel, rfl, by decide +kernel, by decide +kernel⟩
abbrev s_one_of : Stmt := topS 32
abbrev N_one_of : List Str := ["_law_spring_here", "_law_some"]
theorem sc_one_of : FnScope N_one_of ["_law_spring_here", "_law_some"] (defScope s_one_of) := ⟨rfl, rfl, rfl, by decide +kernel, rfl, by decide +kernel, by decide +kernel⟩
abbrev s_divisor : Stmt := topS 33
abbrev N_divisor : List Str := ["_law_one", "_law_two", "_law_far", "_law_rest"]
theorem sc_divisor : FnScope N_divisor ["_law_one", "_law_two"] (defScope s_divisor) := ⟨rfl, rfl, rfl, by decide +kernel, rfl, by decide +kernel, by decide +kernel⟩
abbrev s_part : Stmt := topS 34
abbrev N_part : List Str := ["_law_top", "_law_base", "_law_far"]
theorem sc_part : FnScope N_part ["_law_top", "_law_base"] (defScope s_part) := ⟨rfl, rfl, rfl, by decide +kernel, rfl, by decide +kernel, by decide +kernel⟩
abbrev s_place : Stmt := topS 35
abbrev N_place : List Str := ["_law_x", "_law_y", "_law_w", "_law_far"]
theorem sc_place : FnScope N_place ["_law_x", "_law_y", "_law_w"] (defScope s_place) := ⟨rfl, rfl, rfl, by decide +kernel, rfl, by decide +kernel, by decide +kernel⟩
abbrev s_told : Stmt := topS 36
abbrev N_told : List Str := ["_law_place_here"]
theorem sc_told : FnScope N_told ["_law_place_here"] (defScope s_told) := ⟨rfl, rfl, rfl, by decide +kernel, rfl, by decide +kernel, by decide +kernel⟩
abbrev s_own : Stmt := topS 37
abbrev N_own : List Str := ["_law_told_here", "_law_a", "_law_b", "_law_c", "_law_d"]
theorem sc_own : FnScope N_own ["_law_told_here"] (defScope s_own) := ⟨rfl, rfl, rfl, by decide +kernel, rfl, by decide +kernel, by decide +kernel⟩
abbrev s_side : Stmt := topS 38
abbrev N_side : List Str := ["_law_p", "_law_q", "_law_r", "_law_high"]
theorem sc_side : FnScope N_side ["_law_p", "_law_q", "_law_r"] (defScope s_side) := ⟨rfl, rfl, rfl, by decide +kernel, rfl, by decide +kernel, by decide +kernel⟩
abbrev s_l_is_less : Stmt := topS 39
abbrev N_l_is_less : List Str := ["_law_p", "_law_q"]
theorem sc_l_is_less : FnScope N_l_is_less ["_law_p", "_law_q"] (defScope s_l_is_less) := ⟨rfl, rfl, rfl, by decide +kernel, rfl, by decide +kernel, by decide +kernel⟩
abbrev s_l_lies_on : Stmt := topS 40
abbrev N_l_lies_on : List Str := ["_law_p", "_law_q", "_law_r", "_law_low", "_law_high"]
theorem sc_l_lies_on : FnScope N_l_lies_on ["_law_p", "_law_q", "_law_r"] (defScope s_l_lies_on) := ⟨rfl, rfl, rfl, by decide +kernel, rfl, by decide +kernel, by decide +kernel⟩
abbrev s_odd : Stmt := topS 41
abbrev N_odd : List Str := ["_law_spring_here", "_law_nil", "_law_one", "_law_two", "_law_some"]
theorem sc_odd : FnScope N_odd ["_law_spring_here"] (defScope s_odd) := ⟨rfl, rfl, rfl, by decide +kernel, rfl, by decide +kernel, by decide +kernel⟩
abbrev s_bent : Stmt := topS 42
abbrev N_bent : List Str := ["_law_spring_here", "_law_thing", "_law_at", "_law_branch"]
theorem sc_bent : FnScope N_bent ["_law_spring_here", "_law_thing"] (defScope s_bent) := ⟨rfl, rfl, rfl, by decide +kernel, rfl, by decide +kernel, by decide +kernel⟩
abbrev s_l_is_whole : Stmt := topS 43
abbrev N_l_is_whole : List Str := ["_law_thing"]
theorem sc_l_is_whole : FnScope N_l_is_whole ["_law_thing"] (defScope s_l_is_whole) := ⟨rfl, rfl, rfl, by decide +kernel, rfl, by decide +kernel, by decide +kernel⟩
abbrev s_is_lot : Stmt := topS 44
abbrev N_is_lot : List Str := ["_law_thing", "_law_low", "_law_high"]
theorem sc_is_lot : FnScope N_is_lot ["_law_thing", "_law_low", "_law_high"] (defScope s_is_lot) := ⟨rfl, rfl, rfl, by decide +kernel, rfl, by decide +kernel, by decide +kernel⟩
abbrev s_l_is_fraction : Stmt := topS 45
abbrev N_l_is_fraction : List Str := ["_law_thing", "_law_each"]
theorem sc_l_is_fraction : FnScope N_l_is_fraction ["_law_thing"] (defScope s_l_is_fraction) := ⟨rfl, rfl, rfl, by decide +kernel, rfl, by decide +kernel, by decide +kernel⟩
abbrev s_is_told : Stmt := topS 46
abbrev N_is_told : List Str := ["_law_thing", "_law_each"]
theorem sc_is_told : FnScope N_is_told ["_law_thing"] (defScope s_is_told) := ⟨rfl, rfl, rfl, by decide +kernel, rfl, by decide +kernel, by decide +kernel⟩
abbrev s_number : Stmt := topS 47
abbrev N_number : List Str := ["_law_spring_here", "_law_branch", "_law_under", "_law_top"]
theorem sc_number : FnScope N_number ["_law_spring_here"] (defScope s_number) := ⟨rfl, rfl, rfl, by decide +kernel, rfl, by decide +kernel, by decide +kernel⟩
abbrev s_third : Stmt := topS 48
abbrev N_third : List Str := ["_law_spring_here", "_law_p", "_law_q", "_law_branch", "_law_n", "_law_k", "_law_x", "_law_y", "_law_w", "_law_far"]
theorem sc_third : FnScope N_third ["_law_spring_here", "_law_p", "_law_q"] (defScope s_third) := ⟨rfl, rfl, rfl, by decide +kernel, rfl, by decide +kernel, by decide +kernel⟩
abbrev s_l_sign : Stmt := topS 49
abbrev N_l_sign : List Str := ["_law_whole"]
theorem sc_l_sign : FnScope N_l_sign ["_law_whole"] (defScope s_l_sign) := ⟨rfl, rfl, rfl, by decide +kernel, rfl, by decide +kernel, by decide +kernel⟩
abbrev s_right : Stmt := topS 50
abbrev N_right : List Str := ["_law_spring_here", "_law_one", "_law_two", "_law_p", "_law_q", "_law_r", "_law_far", "_law_due", "_law_told_here", "_law_is_there", "_law_pair", "_law_some", "_law_each"]
theorem sc_right : FnScope N_right ["_law_spring_here"] (defScope s_right) := ⟨rfl, rfl, rfl, by decide +kernel, rfl, by decide +kernel, by decide +kernel⟩
abbrev s_law : Stmt := topS 51
abbrev N_law : List Str := ["_law_script", "_law_turn"]
theorem sc_law : FnScope N_law ["_law_script"] (defScope s_law) := ⟨rfl, rfl, rfl, by decide +kernel, rfl, by decide +kernel, by decide +kernel⟩
structure Tx (K : PySem.W.Frag) (mg : Str → Option Value) : Prop where
  n_abs : mg "abs" = none
  n_all : mg "all" = none
  n_bool : mg "bool" = none
  n_divmod : mg "divmod" = none
  n_int : mg "int" = none
  n_isinstance : mg "isinstance" = none
  n_len : mg "len" = none
  n_list : mg "list" = none
  n_max : mg "max" = none
  n_min : mg "min" = none
  n_range : mg "range" = none
  n_repr : mg "repr" = none
  n_str : mg "str" = none
  n_tuple : mg "tuple" = none
  m_gcd : mg "gcd" = some (.builtin "math.gcd")
  m_lcm : mg "lcm" = some (.builtin "math.lcm")
  h_is_whole : Has K mg "is_whole" s_is_whole
  h_is_row : Has K mg "is_row" s_is_row
  h_is_fraction : Has K mg "is_fraction" s_is_fraction
  h_is_place : Has K mg "is_place" s_is_place
  h_is_stretch : Has K mg "is_stretch" s_is_stretch
  h_check_point : Has K mg "check_point" s_check_point
  h_check_segment : Has K mg "check_segment" s_check_segment
  h_sign : Has K mg "sign" s_sign
  h_is_less : Has K mg "is_less" s_is_less
  h_is_ahead : Has K mg "is_ahead" s_is_ahead
  h_scaled : Has K mg "scaled" s_scaled
  h_crossed : Has K mg "crossed" s_crossed
  h_along : Has K mg "along" s_along
  h_side_of : Has K mg "side_of" s_side_of
  h_in_order : Has K mg "in_order" s_in_order
  h_lies_on : Has K mg "lies_on" s_lies_on
  h_is_point : Has K mg "is_point" s_is_point
  h_turn_of : Has K mg "turn_of" s_turn_of
  h_is_on : Has K mg "is_on" s_is_on
  h_spring : Has K mg "_law_spring" s_spring
  h_draw : Has K mg "_law_draw" s_draw
  h_one_of : Has K mg "_law_one_of" s_one_of
  h_divisor : Has K mg "_law_divisor" s_divisor
  h_part : Has K mg "_law_part" s_part
  h_place : Has K mg "_law_place" s_place
  h_told : Has K mg "_law_told" s_told
  h_own : Has K mg "_law_own" s_own
  h_side : Has K mg "_law_side" s_side
  h_l_is_less : Has K mg "_law_is_less" s_l_is_less
  h_l_lies_on : Has K mg "_law_lies_on" s_l_lies_on
  h_odd : Has K mg "_law_odd" s_odd
  h_bent : Has K mg "_law_bent" s_bent
  h_l_is_whole : Has K mg "_law_is_whole" s_l_is_whole
  h_is_lot : Has K mg "_law_is_lot" s_is_lot
  h_l_is_fraction : Has K mg "_law_is_fraction" s_l_is_fraction
  h_is_told : Has K mg "_law_is_told" s_is_told
  h_number : Has K mg "_law_number" s_number
  h_third : Has K mg "_law_third" s_third
  h_l_sign : Has K mg "_law_sign" s_l_sign
  h_right : Has K mg "_law_right" s_right
  h_law : Has K mg "law" s_law
end K02
namespace K02
open PySem PySem.Spec PyProof.Rows L2 DL
abbrev I (i : Int) : D := .d (.int i)
abbrev Bo (b : Bool) : D := .d (.bool b)
def fr (a b : Int) : PyData := .tuple [.int a, .int b]
def tri (x y w : Int) : PyData := .tuple [.int x, .int y, .int w]
structure Pt where
  (a b c d : Int)
  deriving DecidableEq
def Pt.py (p : Pt) : PyData := .tuple [fr p.a p.b, fr p.c p.d]
def B (n : Nat) (i : Int) : Prop := i.natAbs < 2 ^ n
def gc (a b : Int) : Int := ((Nat.gcd a.natAbs b.natAbs : Nat) : Int)
structure Pt.Ok (p : Pt) : Prop where
  hb : 0 < p.b
  hd : 0 < p.d
  g1 : gc p.a p.b = 1
  g2 : gc p.c p.d = 1
  ba : B 400 p.a
  bb : B 400 p.b
  bc : B 400 p.c
  bd : B 400 p.d
structure Tr where
  (x y w : Int)
def Tr.py (t : Tr) : PyData := tri t.x t.y t.w
structure Tr.Ok (n : Nat) (t : Tr) : Prop where
  hw : 0 < t.w
  bx : B n t.x
  by_ : B n t.y
  bw : B n t.w
def det (p q r : Tr) : Int := p.x * (q.y * r.w - r.y * q.w) - p.y * (q.x * r.w - r.x * q.w) + p.w * (q.x * r.y - r.x * q.y)
def sgn (n : Int) : Int := if n = 0 then 0 else if 0 < n then 1 else -1
/-- the spring: what is left of a great number, the mixed one, how often it was asked -/
def SprL (xs : List D) (n : Nat) : Prop := ∃ x y z : Int, xs = [I x, I y, I z] ∧ 0 ≤ y ∧ y < 2147483629 ∧ 0 ≤ z ∧ z ≤ n
theorem SprL.mono {xs : List D} {n m : Nat} (h : SprL xs n) (hm : n ≤ m) : SprL xs m := by
  obtain ⟨x, y, z, e, h1, h2, h3, h4⟩ := h
  exact ⟨x, y, z, e, h1, h2, h3, by omega⟩
/-- what asks the spring at most c times -/
def spS (c : Nat) (post : D → Prop) (p : Addr) (st : Sto) (Q : Kd) : Prop := ∃ n xs, st p = some xs ∧ SprL xs n ∧ n + c < 2 ^ 40 ∧ ∀ d xs', post d → SprL xs' (n + c) → Q d (put st p xs')
def sp_spring : SpD := fun ds st Q => match ds with
  | [.scr ns, .d (.int t)] => ns.length ≤ 63 ∧ 0 ≤ t ∧ t < 100 ∧ ∀ p xs, st p = none → SprL xs 0 → Q (.own p) (put st p xs)
  | _ => False
def sp_draw : SpD := fun ds st Q => match ds with
  | [.own p, .d (.int m)] => 0 < m ∧ m < 2 ^ 40 ∧ spS 1 (fun d => ∃ i, d = I i ∧ 0 ≤ i ∧ i < m) p st Q
  | _ => False
def sp_one_of : SpD := fun ds st Q => match ds with
  | [.own p, .d (.list xs)] => 0 < xs.length ∧ xs.length < 1000 ∧ spS 1 (fun d => ∃ x, d = .d x ∧ x ∈ xs) p st Q
  | [.own p, .d (.tuple xs)] => 0 < xs.length ∧ xs.length < 1000 ∧ spS 1 (fun d => ∃ x, d = .d x ∧ x ∈ xs) p st Q
  | _ => False
def sp_odd : SpD := fun ds st Q => match ds with
  | [.own p] => spS 1 (fun d => ∃ x, d = .d x) p st Q
  | _ => False
/-- data that may be bent: no dicts, no great numbers, k deep -/
def Plain : Nat → PyData → Prop
  | _, .int i => B 1000 i
  | _, .str _ => True
  | k + 1, .tuple xs => xs.length ≤ 1000 ∧ SeqAt.shaped (.tuple xs) = true ∧ ∀ x ∈ xs, Plain k x
  | _, _ => False
def sp_bentK (k : Nat) : SpD := fun ds st Q => match ds with
  | [.own p, .d x] => Plain k x ∧ spS (2 * k + 2) (fun d => ∃ x, d = .d x) p st Q
  | _ => False
def sp_bent : SpD := sp_bentK 2
def sp_divisor : SpD := fun ds st Q => match ds with
  | [.d (.int a), .d (.int b)] => Q (I (gc a b)) st
  | _ => False
def partD (t b : Int) : PyData := fr (t / gc t b) (b / gc t b)
def sp_part : SpD := fun ds st Q => match ds with
  | [.d (.int t), .d (.int b)] => 0 < b ∧ B 2000 t ∧ B 2000 b ∧ Q (.d (partD t b)) st
  | _ => False
def placeT (x y w : Int) : Tr := ⟨x / gc (gc x y) w, y / gc (gc x y) w, w / gc (gc x y) w⟩
def sp_place : SpD := fun ds st Q => match ds with
  | [.d (.int x), .d (.int y), .d (.int w)] => 0 < w ∧ B 2000 x ∧ B 2000 y ∧ B 2000 w ∧ Q (.d (placeT x y w).py) st
  | _ => False
def toldP (t : Tr) : Pt := ⟨t.x / gc t.x t.w, t.w / gc t.x t.w, t.y / gc t.y t.w, t.w / gc t.y t.w⟩
def ownT (p : Pt) : Tr := placeT (p.a * p.d) (p.c * p.b) (p.b * p.d)
/-! the program's own looks -/
def isW : PyData → Bool
  | .int _ => true
  | _ => false
def isRow (lo hi : Int) : PyData → Bool
  | .tuple xs => decide (lo ≤ xs.length) && decide ((xs.length : Int) ≤ hi)
  | _ => false
def isFr : PyData → Bool
  | .tuple [.int a, .int b] => decide (0 < b) && decide (gc a b = 1)
  | _ => false
def isPl : PyData → Bool
  | .tuple [p, q] => isFr p && isFr q
  | _ => false
def sp_is_whole : SpD := fun ds st Q => match ds with
  | [.d x] => Q (Bo (isW x)) st
  | _ => False
def sp_l_is_whole : SpD := sp_is_whole
def sp_is_row : SpD := fun ds st Q => match ds with
  | [.d x, .d (.int lo), .d (.int hi)] => Q (Bo (isRow lo hi x)) st
  | _ => False
def sp_is_lot : SpD := sp_is_row
def sp_is_fraction : SpD := fun ds st Q => match ds with
  | [.d x] => Q (Bo (isFr x)) st
  | _ => False
def sp_l_is_fraction : SpD := sp_is_fraction
def sp_is_place : SpD := fun ds st Q => match ds with
  | [.d x] => Q (Bo (isPl x)) st
  | _ => False
def sp_is_point : SpD := sp_is_place
def sp_is_told : SpD := sp_is_place
end K02
namespace K02
open PySem PySem.Spec PyProof.Rows L2 DL
def sp_told : SpD := fun ds st Q => match ds with
  | [.d (.tuple [.int x, .int y, .int w])] => Tr.Ok 400 ⟨x, y, w⟩ ∧ Q (.d (toldP ⟨x, y, w⟩).py) st
  | _ => False
def sp_own : SpD := fun ds st Q => match ds with
  | [.d (.tuple [.tuple [.int a, .int b], .tuple [.int c, .int d]])] => 0 < b ∧ 0 < d ∧ B 400 a ∧ B 400 b ∧ B 400 c ∧ B 400 d ∧ Q (.d (ownT ⟨a, b, c, d⟩).py) st
  | _ => False
def sp_side : SpD := fun ds st Q => match ds with
  | [.d (.tuple [.int x, .int y, .int w]), .d (.tuple [.int x', .int y', .int w']), .d (.tuple [.int x'', .int y'', .int w''])] => (B 1000 x ∧ B 1000 y ∧ B 1000 w) ∧ (B 1000 x' ∧ B 1000 y' ∧ B 1000 w') ∧ (B 1000 x'' ∧ B 1000 y'' ∧ B 1000 w'') ∧ Q (I (det ⟨x, y, w⟩ ⟨x', y', w'⟩ ⟨x'', y'', w''⟩)) st
  | _ => False
def lessT (p q : Tr) : Bool := if p.x * q.w ≠ q.x * p.w then decide (p.x * q.w < q.x * p.w) else decide (p.y * q.w < q.y * p.w)
def sp_l_is_less : SpD := fun ds st Q => match ds with
  | [.d (.tuple [.int x, .int y, .int w]), .d (.tuple [.int x', .int y', .int w'])] => (B 1000 x ∧ B 1000 y ∧ B 1000 w) ∧ (B 1000 x' ∧ B 1000 y' ∧ B 1000 w') ∧ Q (Bo (lessT ⟨x, y, w⟩ ⟨x', y', w'⟩)) st
  | _ => False
def onT (p q r : Tr) : Bool := if det p q r ≠ 0 then false else if lessT p q then !lessT r p && !lessT q r else !lessT r q && !lessT p r
def sp_l_lies_on : SpD := fun ds st Q => match ds with
  | [.d (.tuple [.int x, .int y, .int w]), .d (.tuple [.int x', .int y', .int w']), .d (.tuple [.int x'', .int y'', .int w''])] => (B 1000 x ∧ B 1000 y ∧ B 1000 w) ∧ (B 1000 x' ∧ B 1000 y' ∧ B 1000 w') ∧ (B 1000 x'' ∧ B 1000 y'' ∧ B 1000 w'') ∧ Q (Bo (onT ⟨x, y, w⟩ ⟨x', y', w'⟩ ⟨x'', y'', w''⟩)) st
  | _ => False
def sp_l_sign : SpD := fun ds st Q => match ds with
  | [.d (.int n)] => Q (I (sgn n)) st
  | _ => False
def sp_sign : SpD := sp_l_sign
/-! the program's geometry -/
def scT (p : Pt) : Tr := ⟨p.a * (((Nat.lcm p.b.natAbs p.d.natAbs : Nat) : Int) / p.b), p.c * (((Nat.lcm p.b.natAbs p.d.natAbs : Nat) : Int) / p.d), ((Nat.lcm p.b.natAbs p.d.natAbs : Nat) : Int)⟩
def sp_scaled : SpD := fun ds st Q => match ds with
  | [.d (.tuple [.tuple [.int a, .int b], .tuple [.int c, .int d]])] => 0 < b ∧ 0 < d ∧ B 400 a ∧ B 400 b ∧ B 400 c ∧ B 400 d ∧ Q (.d (scT ⟨a, b, c, d⟩).py) st
  | _ => False
def crT (p q : Tr) : Tr := ⟨p.y * q.w - p.w * q.y, p.w * q.x - p.x * q.w, p.x * q.y - p.y * q.x⟩
def sp_crossed : SpD := fun ds st Q => match ds with
  | [.d (.tuple [.int x, .int y, .int w]), .d (.tuple [.int x', .int y', .int w'])] => (B 2000 x ∧ B 2000 y ∧ B 2000 w) ∧ (B 2000 x' ∧ B 2000 y' ∧ B 2000 w') ∧ Q (.d (crT ⟨x, y, w⟩ ⟨x', y', w'⟩).py) st
  | _ => False
def alT (l t : Tr) : Int := l.x * t.x + l.y * t.y + l.w * t.w
def sp_along : SpD := fun ds st Q => match ds with
  | [.d (.tuple [.int x, .int y, .int w]), .d (.tuple [.int x', .int y', .int w'])] => (B 5000 x ∧ B 5000 y ∧ B 5000 w) ∧ (B 5000 x' ∧ B 5000 y' ∧ B 5000 w') ∧ Q (I (alT ⟨x, y, w⟩ ⟨x', y', w'⟩)) st
  | _ => False
def sideP (p q r : Pt) : Int := sgn (alT (crT (scT p) (scT q)) (scT r))
/-- three points as arguments -/
def sp_side_of : SpD := fun ds st Q => ∃ p q r : Pt, ds = [.d p.py, .d q.py, .d r.py] ∧ p.Ok ∧ q.Ok ∧ r.Ok ∧ Q (I (sideP p q r)) st
def sp_turn_of : SpD := sp_side_of
def sp_is_less : SpD := fun ds st Q => match ds with
  | [.d (.tuple [.int a, .int b]), .d (.tuple [.int c, .int d])] => (B 400 a ∧ B 400 b ∧ B 400 c ∧ B 400 d) ∧ Q (Bo (decide (a * d < c * b))) st
  | _ => False
def ahead (p q : Pt) : Bool := if p.a = q.a ∧ p.b = q.b then decide (p.c * q.d < q.c * p.d) else decide (p.a * q.b < q.a * p.b)
def sp_is_ahead : SpD := fun ds st Q => ∃ p q : Pt, ds = [.d p.py, .d q.py] ∧ p.Ok ∧ q.Ok ∧ Q (Bo (ahead p q)) st
def sp_in_order : SpD := fun ds st Q => ∃ p q : Pt, ds = [.d (.tuple [p.py, q.py])] ∧ p.Ok ∧ q.Ok ∧ Q (.d (if ahead q p then .tuple [q.py, p.py] else .tuple [p.py, q.py])) st
def onP (p q r : Pt) : Bool := if sideP p q r ≠ 0 then false else if ahead q p then !ahead r q && !ahead p r else !ahead r p && !ahead q r
def sp_lies_on : SpD := fun ds st Q => ∃ p q r : Pt, ds = [.d (.tuple [p.py, q.py]), .d r.py] ∧ p.Ok ∧ q.Ok ∧ r.Ok ∧ Q (Bo (onP p q r)) st
def sp_is_on : SpD := fun ds st Q => ∃ p q r : Pt, ds = [.d (.tuple [p.py, q.py]), .d r.py] ∧ p.Ok ∧ q.Ok ∧ r.Ok ∧ p ≠ q ∧ Q (Bo (onP p q r)) st
def sp_is_stretch : SpD := fun ds st Q => ∃ p q : Pt, ds = [.d (.tuple [p.py, q.py])] ∧ p.Ok ∧ q.Ok ∧ p ≠ q ∧ Q (Bo true) st
def sp_check_point : SpD := fun ds st Q => ∃ p : Pt, ds = [.d p.py] ∧ p.Ok ∧ Q (.d .none) st
def sp_check_segment : SpD := fun ds st Q => ∃ p q : Pt, ds = [.d (.tuple [p.py, q.py])] ∧ p.Ok ∧ q.Ok ∧ p ≠ q ∧ Q (.d .none) st
def sp_number : SpD := fun ds st Q => match ds with
  | [.own p] => spS 4 (fun d => ∃ a b, d = .d (fr a b) ∧ 0 < b ∧ gc a b = 1 ∧ B 30 a ∧ B 30 b) p st Q
  | _ => False
def sp_third : SpD := fun ds st Q => match ds with
  | [.own p, .d (.tuple [.int x, .int y, .int w]), .d (.tuple [.int x', .int y', .int w'])] => (0 < w ∧ B 100 x ∧ B 100 y ∧ B 100 w) ∧ (0 < w' ∧ B 100 x' ∧ B 100 y' ∧ B 100 w') ∧ spS 9 (fun d => ∃ r : Tr, d = .d r.py ∧ r.Ok 400) p st Q
  | _ => False
def sp_right : SpD := fun ds st Q => match ds with
  | [.own p] => ∃ xs, st p = some xs ∧ SprL xs 0 ∧ ∀ st', Q (Bo true) st'
  | _ => False
def sp_law : SpD := fun ds st Q => match ds with
  | [.scr ns] => ns.length ≤ 63 ∧ ∀ st', Q (Bo true) st'
  | _ => False
end K02
namespace K02
open PySem PySem.Spec PyProof.Rows L2 DL
def b_is_whole : TSd := (dRet (dAnd (dIs "int" (dVar 0)) (dNot (dIs "bool" (dVar 0)))))
def b_is_row : TSd := (dRet (dAnd (dIs "tuple" (dVar 0)) (dChain rLeD rLeD (dVar 1) (dCall cLen (dCons (dVar 0) dNil)) (dVar 2))))
def b_is_fraction_1 : TSd := (dIfS (dOrT (dNotT (dTst (dFn0 sp_is_row (dCons (dVar 0) (dCons (dC (.int 2)) (dCons (dC (.int 2)) dNil)))))) (dOrT (dNotT (dTst (dFn0 sp_is_whole (dCons (dBin rIxD (dVar 0) (dC (.int 0))) dNil)))) (dNotT (dTst (dFn0 sp_is_whole (dCons (dBin rIxD (dVar 0) (dC (.int 1))) dNil)))))) (dRet (dC (.bool false))) dNext)
def b_is_fraction_2 : TSd := (dRet (dAnd (dBin rGtD (dBin rIxD (dVar 0) (dC (.int 1))) (dC (.int 0))) (dBin rEqV (dCall cGcd (dCons (dBin rIxD (dVar 0) (dC (.int 0))) (dCons (dBin rIxD (dVar 0) (dC (.int 1))) dNil))) (dC (.int 1)))))
def b_is_fraction : TSd := (dSeq b_is_fraction_1 b_is_fraction_2)
def b_is_place : TSd := (dRet (dAnd (dFn0 sp_is_row (dCons (dVar 0) (dCons (dC (.int 2)) (dCons (dC (.int 2)) dNil)))) (dAnd (dFn0 sp_is_fraction (dCons (dBin rIxD (dVar 0) (dC (.int 0))) dNil)) (dFn0 sp_is_fraction (dCons (dBin rIxD (dVar 0) (dC (.int 1))) dNil)))))
def b_is_stretch : TSd := (dRet (dAnd (dFn0 sp_is_row (dCons (dVar 0) (dCons (dC (.int 2)) (dCons (dC (.int 2)) dNil)))) (dAnd (dFn0 sp_is_place (dCons (dBin rIxD (dVar 0) (dC (.int 0))) dNil)) (dAnd (dFn0 sp_is_place (dCons (dBin rIxD (dVar 0) (dC (.int 1))) dNil)) (dBin rNeV (dBin rIxD (dVar 0) (dC (.int 0))) (dBin rIxD (dVar 0) (dC (.int 1))))))))
def b_check_point : TSd := (dIfS (dNotT (dTst (dFn0 sp_is_place (dCons (dVar 0) dNil)))) dNever dNext)
def b_check_segment : TSd := (dIfS (dNotT (dTst (dFn0 sp_is_stretch (dCons (dVar 0) dNil)))) dNever dNext)
def b_sign_1 : TSd := (dIfS (dTst (dBin rEqV (dVar 0) (dC (.int 0)))) (dRet (dC (.int 0))) dNext)
def b_sign_2 : TSd := (dRet (dIf (dTst (dBin rGtD (dVar 0) (dC (.int 0)))) (dC (.int 1)) (dNeg (dC (.int 1)))))
def b_sign : TSd := (dSeq b_sign_1 b_sign_2)
def b_is_less : TSd := (dRet (dBin rLtD (dBin rMulD (dBin rIxD (dVar 0) (dC (.int 0))) (dBin rIxD (dVar 1) (dC (.int 1)))) (dBin rMulD (dBin rIxD (dVar 1) (dC (.int 0))) (dBin rIxD (dVar 0) (dC (.int 1))))))
def b_is_ahead_1 : TSd := (dIfS (dTst (dBin rNeV (dBin rIxD (dVar 0) (dC (.int 0))) (dBin rIxD (dVar 1) (dC (.int 0))))) (dRet (dFn0 sp_is_less (dCons (dBin rIxD (dVar 0) (dC (.int 0))) (dCons (dBin rIxD (dVar 1) (dC (.int 0))) dNil)))) dNext)
def b_is_ahead_2 : TSd := (dRet (dFn0 sp_is_less (dCons (dBin rIxD (dVar 0) (dC (.int 1))) (dCons (dBin rIxD (dVar 1) (dC (.int 1))) dNil))))
def b_is_ahead : TSd := (dSeq b_is_ahead_1 b_is_ahead_2)
def b_scaled_1 : TSd := (dAsg (dVar 0) (hTup 2 (hCons (hTup 2 (hCons (hName 1) (hCons (hName 2) hNil))) (hCons (hTup 2 (hCons (hName 3) (hCons (hName 4) hNil))) hNil))))
def b_scaled_2 : TSd := (dAsg (dCall cLcm (dCons (dVar 2) (dCons (dVar 4) dNil))) (hName 5))
def b_scaled_3 : TSd := (dRet (dTup (dCons (dBin rMulD (dVar 1) (dBin rDivD (dVar 5) (dVar 2))) (dCons (dBin rMulD (dVar 3) (dBin rDivD (dVar 5) (dVar 4))) (dCons (dVar 5) dNil)))))
def b_scaled : TSd := (dSeq b_scaled_1 (dSeq b_scaled_2 b_scaled_3))
def b_crossed : TSd := (dRet (dTup (dCons (dBin rSubD (dBin rMulD (dBin rIxD (dVar 0) (dC (.int 1))) (dBin rIxD (dVar 1) (dC (.int 2)))) (dBin rMulD (dBin rIxD (dVar 0) (dC (.int 2))) (dBin rIxD (dVar 1) (dC (.int 1))))) (dCons (dBin rSubD (dBin rMulD (dBin rIxD (dVar 0) (dC (.int 2))) (dBin rIxD (dVar 1) (dC (.int 0)))) (dBin rMulD (dBin rIxD (dVar 0) (dC (.int 0))) (dBin rIxD (dVar 1) (dC (.int 2))))) (dCons (dBin rSubD (dBin rMulD (dBin rIxD (dVar 0) (dC (.int 0))) (dBin rIxD (dVar 1) (dC (.int 1)))) (dBin rMulD (dBin rIxD (dVar 0) (dC (.int 1))) (dBin rIxD (dVar 1) (dC (.int 0))))) dNil)))))
def b_along : TSd := (dRet (dBin rAddD (dBin rAddD (dBin rMulD (dBin rIxD (dVar 0) (dC (.int 0))) (dBin rIxD (dVar 1) (dC (.int 0)))) (dBin rMulD (dBin rIxD (dVar 0) (dC (.int 1))) (dBin rIxD (dVar 1) (dC (.int 1))))) (dBin rMulD (dBin rIxD (dVar 0) (dC (.int 2))) (dBin rIxD (dVar 1) (dC (.int 2))))))
def b_side_of : TSd := (dRet (dFn0 sp_sign (dCons (dFn0 sp_along (dCons (dFn0 sp_crossed (dCons (dFn0 sp_scaled (dCons (dVar 0) dNil)) (dCons (dFn0 sp_scaled (dCons (dVar 1) dNil)) dNil))) (dCons (dFn0 sp_scaled (dCons (dVar 2) dNil)) dNil))) dNil)))
def b_in_order_1 : TSd := (dAsg (dVar 0) (hTup 2 (hCons (hName 1) (hCons (hName 2) hNil))))
def b_in_order_2 : TSd := (dRet (dIf (dTst (dFn0 sp_is_ahead (dCons (dVar 2) (dCons (dVar 1) dNil)))) (dTup (dCons (dVar 2) (dCons (dVar 1) dNil))) (dTup (dCons (dVar 1) (dCons (dVar 2) dNil)))))
def b_in_order : TSd := (dSeq b_in_order_1 b_in_order_2)
def b_lies_on_1 : TSd := (dIfS (dTst (dBin rNeV (dFn0 sp_side_of (dCons (dBin rIxD (dVar 0) (dC (.int 0))) (dCons (dBin rIxD (dVar 0) (dC (.int 1))) (dCons (dVar 1) dNil)))) (dC (.int 0)))) (dRet (dC (.bool false))) dNext)
def b_lies_on_2 : TSd := (dAsg (dFn0 sp_in_order (dCons (dVar 0) dNil)) (hTup 2 (hCons (hName 2) (hCons (hName 3) hNil))))
def b_lies_on_3 : TSd := (dRet (dAnd (dNot (dFn0 sp_is_ahead (dCons (dVar 1) (dCons (dVar 2) dNil)))) (dNot (dFn0 sp_is_ahead (dCons (dVar 3) (dCons (dVar 1) dNil))))))
def b_lies_on : TSd := (dSeq b_lies_on_1 (dSeq b_lies_on_2 b_lies_on_3))
def b_is_point : TSd := (dRet (dFn0 sp_is_place (dCons (dVar 0) dNil)))
def b_turn_of_1 : TSd := (dDrop (dFn0 sp_check_point (dCons (dVar 0) dNil)))
def b_turn_of_2 : TSd := (dDrop (dFn0 sp_check_point (dCons (dVar 1) dNil)))
def b_turn_of_3 : TSd := (dDrop (dFn0 sp_check_point (dCons (dVar 2) dNil)))
def b_turn_of_4 : TSd := (dRet (dFn0 sp_side_of (dCons (dVar 0) (dCons (dVar 1) (dCons (dVar 2) dNil)))))
def b_turn_of : TSd := (dSeq b_turn_of_1 (dSeq b_turn_of_2 (dSeq b_turn_of_3 b_turn_of_4)))
def b_is_on_1 : TSd := (dDrop (dFn0 sp_check_segment (dCons (dVar 0) dNil)))
def b_is_on_2 : TSd := (dDrop (dFn0 sp_check_point (dCons (dVar 1) dNil)))
def b_is_on_3 : TSd := (dRet (dFn0 sp_lies_on (dCons (dVar 0) (dCons (dVar 1) dNil))))
def b_is_on : TSd := (dSeq b_is_on_1 (dSeq b_is_on_2 b_is_on_3))
def b_spring_1 : TSd := (dAsg (dBin rAddD (dC (.int 522017)) (dBin rMulD (dC (.int 9241)) (dVar 1))) (hName 2))
def b_spring_2 : TSd := (dFor (dIter (dSl (dVar 0) dNoP (dPart (dC (.int 9))))) (hName 3) (dAsg (dBin rModD (dCall cInt (dCons (dBin rAddD (dBin rAddD (dBin rMulD (dVar 2) (dC (.int 58027))) (dBin rModD (dCall cInt (dCons (dVar 3) dNil)) (dC (.int 2147483587)))) (dC (.int 19))) dNil)) (dC (.int 2147483629))) (hName 2)))
def b_spring_3 : TSd := (dAsg (dIf (dTst (dBin rLtD (dVar 1) (dCall cLen (dCons (dVar 0) dNil)))) (dCall cInt (dCons (dBin rIxD (dVar 0) (dVar 1)) dNil)) (dC (.int 0))) (hName 4))
def b_spring_4 : TSd := (dAsg (dBin rModD (dCall cInt (dCons (dBin rAddD (dBin rAddD (dBin rMulD (dVar 2) (dC (.int 61))) (dBin rMulD (dBin rModD (dCall cInt (dCons (dVar 4) dNil)) (dC (.int 2147483587))) (dC (.int 30011)))) (dC (.int 7))) dNil)) (dC (.int 2147483629))) (hName 2))
def b_spring_5 : TSd := (dRet (dLst (dCons (dIf (dOrT (dTst (dBin rLtD (dVar 4) (dC (.int 0)))) (dTst (dBin rGeD (dVar 4) (dBin rPowD (dC (.int 10)) (dC (.int 15)))))) (dCall cAbs (dCons (dVar 4) dNil)) (dC (.int 0))) (dCons (dVar 2) (dCons (dC (.int 0)) dNil)))))
def b_spring : TSd := (dSeq b_spring_1 (dSeq b_spring_2 (dSeq b_spring_3 (dSeq b_spring_4 b_spring_5))))
def b_draw_1 : TSd := (dIfS (dTst (dBin rGtD (dBin rIxD (dVar 0) (dC (.int 0))) (dC (.int 0)))) (dSeq (dAsg (dCall cDivmod (dCons (dBin rIxD (dVar 0) (dC (.int 0))) (dCons (dVar 1) dNil))) (hTup 2 (hCons (hSub (dVar 0) (dC (.int 0))) (hCons (hName 2) hNil)))) (dRet (dVar 2))) dNext)
def b_draw_2 : TSd := (dAsg (dBin rAddD (dBin rIxD (dVar 0) (dC (.int 2))) (dC (.int 1))) (hSub (dVar 0) (dC (.int 2))))
def b_draw_3 : TSd := (dAsg (dBin rModD (dCall cInt (dCons (dBin rAddD (dBin rIxD (dVar 0) (dC (.int 1))) (dBin rMulD (dC (.int 70003)) (dBin rIxD (dVar 0) (dC (.int 2))))) dNil)) (dC (.int 2147483629))) (hName 3))
def b_draw_4 : TSd := (dAsg (dBin rModD (dCall cInt (dCons (dBin rAddD (dBin rMulD (dVar 3) (dBin rAddD (dBin rModD (dCall cInt (dCons (dVar 3) dNil)) (dC (.int 6007))) (dC (.int 50021)))) (dBin rMulD (dC (.int 29)) (dBin rIxD (dVar 0) (dC (.int 2))))) dNil)) (dC (.int 2147483629))) (hSub (dVar 0) (dC (.int 1))))
def b_draw_5 : TSd := (dRet (dBin rModD (dCall cInt (dCons (dBin rDivD (dBin rIxD (dVar 0) (dC (.int 1))) (dC (.int 769))) dNil)) (dVar 1)))
def b_draw : TSd := (dSeq b_draw_1 (dSeq b_draw_2 (dSeq b_draw_3 (dSeq b_draw_4 b_draw_5))))
def b_one_of : TSd := (dRet (dBin rIxD (dVar 1) (dFn0 sp_draw (dCons (dVar 0) (dCons (dCall cLen (dCons (dVar 1) dNil)) dNil)))))
def b_divisor_1 : TSd := (dPar 2 3 (dCons (dCall cAbs (dCons (dVar 0) dNil)) (dCons (dCall cAbs (dCons (dVar 1) dNil)) dNil)))
def b_divisor_2 : TSd := (dWhile (dTst (dBin rNeV (dVar 3) (dC (.int 0)))) (dPar 2 3 (dCons (dVar 3) (dCons (dBin rModD (dCall cInt (dCons (dVar 2) dNil)) (dVar 3)) dNil))))
def b_divisor_3 : TSd := (dRet (dVar 2))
def b_divisor : TSd := (dSeq b_divisor_1 (dSeq b_divisor_2 b_divisor_3))
def b_part_1 : TSd := (dAsg (dIf (dTst (dBin rGtD (dVar 1) (dC (.int 0)))) (dFn0 sp_divisor (dCons (dVar 0) (dCons (dVar 1) dNil))) (dBin rSubD (dC (.int 0)) (dFn0 sp_divisor (dCons (dVar 0) (dCons (dVar 1) dNil))))) (hName 2))
def b_part_2 : TSd := (dRet (dTup (dCons (dBin rDivD (dVar 0) (dVar 2)) (dCons (dBin rDivD (dVar 1) (dVar 2)) dNil))))
def b_part : TSd := (dSeq b_part_1 b_part_2)
def b_place_1 : TSd := (dAsg (dIf (dTst (dBin rGtD (dVar 2) (dC (.int 0)))) (dFn0 sp_divisor (dCons (dFn0 sp_divisor (dCons (dVar 0) (dCons (dVar 1) dNil))) (dCons (dVar 2) dNil))) (dBin rSubD (dC (.int 0)) (dFn0 sp_divisor (dCons (dFn0 sp_divisor (dCons (dVar 0) (dCons (dVar 1) dNil))) (dCons (dVar 2) dNil))))) (hName 3))
def b_place_2 : TSd := (dRet (dTup (dCons (dBin rDivD (dVar 0) (dVar 3)) (dCons (dBin rDivD (dVar 1) (dVar 3)) (dCons (dBin rDivD (dVar 2) (dVar 3)) dNil)))))
def b_place : TSd := (dSeq b_place_1 b_place_2)
def b_told : TSd := (dRet (dTup (dCons (dFn0 sp_part (dCons (dBin rIxD (dVar 0) (dC (.int 0))) (dCons (dBin rIxD (dVar 0) (dC (.int 2))) dNil))) (dCons (dFn0 sp_part (dCons (dBin rIxD (dVar 0) (dC (.int 1))) (dCons (dBin rIxD (dVar 0) (dC (.int 2))) dNil))) dNil))))
def b_own_1 : TSd := (dAsg (dVar 0) (hTup 2 (hCons (hTup 2 (hCons (hName 1) (hCons (hName 2) hNil))) (hCons (hTup 2 (hCons (hName 3) (hCons (hName 4) hNil))) hNil))))
def b_own_2 : TSd := (dRet (dFn0 sp_place (dCons (dBin rMulD (dVar 1) (dVar 4)) (dCons (dBin rMulD (dVar 3) (dVar 2)) (dCons (dBin rMulD (dVar 2) (dVar 4)) dNil)))))
def b_own : TSd := (dSeq b_own_1 b_own_2)
def b_side_1 : TSd := (dAsg (dBin rSubD (dBin rMulD (dBin rIxD (dVar 0) (dC (.int 0))) (dBin rSubD (dBin rMulD (dBin rIxD (dVar 1) (dC (.int 1))) (dBin rIxD (dVar 2) (dC (.int 2)))) (dBin rMulD (dBin rIxD (dVar 2) (dC (.int 1))) (dBin rIxD (dVar 1) (dC (.int 2)))))) (dBin rMulD (dBin rIxD (dVar 0) (dC (.int 1))) (dBin rSubD (dBin rMulD (dBin rIxD (dVar 1) (dC (.int 0))) (dBin rIxD (dVar 2) (dC (.int 2)))) (dBin rMulD (dBin rIxD (dVar 2) (dC (.int 0))) (dBin rIxD (dVar 1) (dC (.int 2))))))) (hName 3))
def b_side_2 : TSd := (dRet (dBin rAddD (dVar 3) (dBin rMulD (dBin rIxD (dVar 0) (dC (.int 2))) (dBin rSubD (dBin rMulD (dBin rIxD (dVar 1) (dC (.int 0))) (dBin rIxD (dVar 2) (dC (.int 1)))) (dBin rMulD (dBin rIxD (dVar 2) (dC (.int 0))) (dBin rIxD (dVar 1) (dC (.int 1))))))))
def b_side : TSd := (dSeq b_side_1 b_side_2)
def b_l_is_less_1 : TSd := (dIfS (dTst (dBin rNeV (dBin rMulD (dBin rIxD (dVar 0) (dC (.int 0))) (dBin rIxD (dVar 1) (dC (.int 2)))) (dBin rMulD (dBin rIxD (dVar 1) (dC (.int 0))) (dBin rIxD (dVar 0) (dC (.int 2)))))) (dRet (dBin rLtD (dBin rMulD (dBin rIxD (dVar 0) (dC (.int 0))) (dBin rIxD (dVar 1) (dC (.int 2)))) (dBin rMulD (dBin rIxD (dVar 1) (dC (.int 0))) (dBin rIxD (dVar 0) (dC (.int 2)))))) dNext)
def b_l_is_less_2 : TSd := (dRet (dBin rLtD (dBin rMulD (dBin rIxD (dVar 0) (dC (.int 1))) (dBin rIxD (dVar 1) (dC (.int 2)))) (dBin rMulD (dBin rIxD (dVar 1) (dC (.int 1))) (dBin rIxD (dVar 0) (dC (.int 2))))))
def b_l_is_less : TSd := (dSeq b_l_is_less_1 b_l_is_less_2)
def b_l_lies_on_1 : TSd := (dIfS (dTst (dBin rNeV (dFn0 sp_side (dCons (dVar 0) (dCons (dVar 1) (dCons (dVar 2) dNil)))) (dC (.int 0)))) (dRet (dC (.bool false))) dNext)
def b_l_lies_on_2 : TSd := (dAsg (dIf (dTst (dFn0 sp_l_is_less (dCons (dVar 0) (dCons (dVar 1) dNil)))) (dTup (dCons (dVar 0) (dCons (dVar 1) dNil))) (dTup (dCons (dVar 1) (dCons (dVar 0) dNil)))) (hTup 2 (hCons (hName 3) (hCons (hName 4) hNil))))
def b_l_lies_on_3 : TSd := (dRet (dAnd (dNot (dFn0 sp_l_is_less (dCons (dVar 2) (dCons (dVar 3) dNil)))) (dNot (dFn0 sp_l_is_less (dCons (dVar 4) (dCons (dVar 2) dNil))))))
def b_l_lies_on : TSd := (dSeq b_l_lies_on_1 (dSeq b_l_lies_on_2 b_l_lies_on_3))
def b_odd_1 : TSd := (dAsg (dTup (dCons (dTup (dCons (dTup (dCons (dC (.int 0)) (dCons (dC (.int 1)) dNil))) (dCons (dTup (dCons (dC (.int 0)) (dCons (dC (.int 1)) dNil))) dNil))) (dCons (dTup (dCons (dTup (dCons (dC (.int 1)) (dCons (dC (.int 1)) dNil))) (dCons (dTup (dCons (dC (.int 0)) (dCons (dC (.int 1)) dNil))) dNil))) (dCons (dTup (dCons (dTup (dCons (dNeg (dC (.int 3))) (dCons (dC (.int 2)) dNil))) (dCons (dTup (dCons (dC (.int 5)) (dCons (dC (.int 7)) dNil))) dNil))) dNil)))) (hTup 3 (hCons (hName 1) (hCons (hName 2) (hCons (hName 3) hNil)))))
def b_odd_2 : TSd := (dAsg (dLstV (dCons (dC .none) (dCons (dC (.bool true)) (dCons (dC (.bool false)) (dCons (dC (.int 0)) (dCons (dC (.int 1)) (dCons (dNeg (dC (.int 1))) (dCons (dBin rPowD (dC (.int 10)) (dC (.int 25))) (dCons (dC (.str "")) (dCons (dC (.str "A")) (dCons (dC (.str "E")) (dCons (dC (.str "a")) (dCons (dC (.str "spot")) (dCons (dC (.str "vertex")) (dCons (dC (.str "face")) (dCons (dTup dNil) (dCons (dTup (dCons (dC (.int 0)) dNil)) (dCons (dTup (dCons (dC (.int 0)) (dCons (dC (.int 1)) dNil))) (dCons (dTup (dCons (dC (.int 1)) (dCons (dC (.int 1)) dNil))) (dCons (dTup (dCons (dC (.int 2)) (dCons (dC (.int 2)) dNil))) (dCons (dTup (dCons (dC (.int 0)) (dCons (dC (.int 3)) dNil))) (dCons (dTup (dCons (dC (.int 0)) (dCons (dC (.int 0)) dNil))) (dCons (dTup (dCons (dC (.int 1)) (dCons (dC (.int 0)) dNil))) (dCons (dTup (dCons (dC (.int 3)) (dCons (dNeg (dC (.int 2))) dNil))) (dCons (dTup (dCons (dC (.bool true)) (dCons (dC (.int 1)) dNil))) (dCons (dTup (dCons (dC (.int 0)) (dCons (dC (.bool true)) dNil))) (dCons (dTup (dCons (dC (.str "0")) (dCons (dC (.int 1)) dNil))) (dCons (dTup (dCons (dC .none) (dCons (dC (.int 1)) dNil))) (dCons (dVar 1) (dCons (dVar 2) (dCons (dVar 3) (dCons (dTup (dCons (dVar 1) (dCons (dVar 2) dNil))) (dCons (dTup (dCons (dVar 3) (dCons (dVar 1) dNil))) (dCons (dTup (dCons (dVar 1) (dCons (dVar 1) dNil))) (dCons (dTup (dCons (dVar 1) (dCons (dVar 2) (dCons (dVar 3) dNil)))) (dCons (dTup (dCons (dVar 2) (dCons (dVar 3) (dCons (dVar 2) dNil)))) (dCons (dTup (dCons (dTup (dCons (dC (.int 0)) (dCons (dC (.int 1)) dNil))) dNil)) (dCons (dTup (dCons (dTup (dCons (dC (.int 0)) (dCons (dC (.int 1)) dNil))) (dCons (dTup (dCons (dC (.int 0)) (dCons (dC (.int 2)) dNil))) dNil))) (dCons (dTup (dCons (dTup (dCons (dC (.int 0)) (dCons (dC (.int 1)) dNil))) (dCons (dTup (dCons (dC (.int 1)) (dCons (dC (.int 1)) dNil))) (dCons (dTup (dCons (dC (.int 0)) (dCons (dC (.int 1)) dNil))) dNil)))) (dCons (dTup (dCons (dLstV (dCons (dC (.int 0)) (dCons (dC (.int 1)) dNil))) (dCons (dTup (dCons (dC (.int 0)) (dCons (dC (.int 1)) dNil))) dNil))) (dCons (dLstV dNil) (dCons (dLstV (dCons (dC (.int 0)) (dCons (dC (.int 1)) dNil))) (dCons (dLstV (dCons (dTup (dCons (dC (.int 0)) (dCons (dC (.int 1)) dNil))) (dCons (dTup (dCons (dC (.int 0)) (dCons (dC (.int 1)) dNil))) dNil))) (dCons (dDict []) (dCons (dDict [(.str "A", .int 1)]) (dCons (dTup (dCons (dC (.str "vertex")) (dCons (dC (.int 0)) dNil))) (dCons (dTup (dCons (dC (.str "edge")) (dCons (dC (.int 0)) dNil))) (dCons (dTup (dCons (dC (.str "face")) (dCons (dC (.int 0)) dNil))) (dCons (dTup (dCons (dC (.str "face")) (dCons (dC (.int 1)) dNil))) (dCons (dTup (dCons (dC (.str "face")) (dCons (dC (.bool true)) dNil))) (dCons (dTup (dCons (dC (.str "vertex")) (dCons (dNeg (dC (.int 1))) dNil))) (dCons (dTup (dCons (dC (.str "cell")) (dCons (dC (.int 0)) dNil))) (dCons (dLstV (dCons (dC (.str "face")) (dCons (dC (.int 0)) dNil))) (dCons (dTup (dCons (dC (.str "spot")) (dCons (dVar 1) dNil))) (dCons (dTup (dCons (dC (.str "spot")) (dCons (dTup (dCons (dVar 1) dNil)) dNil))) (dCons (dTup (dCons (dC (.str "spot")) (dCons (dVar 1) (dCons (dVar 2) dNil)))) (dCons (dTup (dCons (dC (.str "path")) (dCons (dTup (dCons (dVar 1) (dCons (dVar 2) dNil))) dNil))) (dCons (dTup (dCons (dC (.str "path")) (dCons (dTup (dCons (dVar 1) (dCons (dVar 1) dNil))) dNil))) (dCons (dTup (dCons (dC (.str "path")) (dCons (dTup (dCons (dVar 1) dNil)) dNil))) (dCons (dTup (dCons (dC (.str "path")) (dCons (dTup dNil) dNil))) (dCons (dTup (dCons (dC (.str "area")) (dCons (dTup (dCons (dVar 1) (dCons (dVar 2) (dCons (dVar 3) dNil)))) dNil))) (dCons (dTup (dCons (dC (.str "area")) (dCons (dTup (dCons (dVar 1) (dCons (dVar 2) (dCons (dVar 1) dNil)))) dNil))) (dCons (dTup (dCons (dC (.str "area")) (dCons (dTup (dCons (dVar 1) (dCons (dVar 2) dNil))) dNil))) (dCons (dTup (dCons (dC (.str "area")) (dCons (dLstV (dCons (dVar 1) (dCons (dVar 2) (dCons (dVar 3) dNil)))) dNil))) (dCons (dTup (dCons (dC (.str "rim")) (dCons (dTup (dCons (dC (.str "spot")) (dCons (dVar 1) dNil))) dNil))) (dCons (dTup (dCons (dC (.str "rim")) dNil)) (dCons (dTup (dCons (dC (.str "both")) (dCons (dTup (dCons (dC (.str "spot")) (dCons (dVar 1) dNil))) (dCons (dTup (dCons (dC (.str "spot")) (dCons (dVar 2) dNil))) dNil)))) (dCons (dTup (dCons (dC (.str "both")) (dCons (dTup (dCons (dC (.str "spot")) (dCons (dVar 1) dNil))) dNil))) (dCons (dTup (dCons (dC (.str "not")) (dCons (dTup (dCons (dC (.str "spot")) (dCons (dVar 1) dNil))) dNil))) (dCons (dTup (dCons (dC (.str "closure")) (dCons (dC (.str "A")) dNil))) (dCons (dTup (dCons (dC (.str "inner")) (dCons (dTup (dCons (dC (.str "spot")) (dCons (dVar 2) dNil))) (dCons (dTup (dCons (dC (.str "spot")) (dCons (dVar 2) dNil))) dNil)))) (dCons (dTup (dCons (dTup (dCons (dC (.str "A")) (dCons (dTup (dCons (dC (.str "spot")) (dCons (dVar 1) dNil))) dNil))) dNil)) (dCons (dTup (dCons (dTup (dCons (dC (.str "B")) (dCons (dTup (dCons (dC (.str "spot")) (dCons (dVar 1) dNil))) dNil))) (dCons (dTup (dCons (dC (.str "A")) (dCons (dTup (dCons (dC (.str "spot")) (dCons (dVar 1) dNil))) dNil))) dNil))) (dCons (dTup (dCons (dTup (dCons (dC (.str "a")) (dCons (dTup (dCons (dC (.str "spot")) (dCons (dVar 1) dNil))) dNil))) dNil)) (dCons (dTup (dCons (dTup (dCons (dC (.str "A")) (dCons (dVar 1) dNil))) dNil)) (dCons (dTup (dCons (dTup (dCons (dC (.str "A")) (dCons (dTup (dCons (dC (.str "spot")) (dCons (dVar 1) dNil))) dNil))) (dCons (dTup (dCons (dC (.str "A")) (dCons (dTup (dCons (dC (.str "spot")) (dCons (dVar 2) dNil))) dNil))) dNil))) (dCons (dTup (dCons (dTup (dCons (dVar 1) (dCons (dVar 2) dNil))) (dCons (dTup (dCons (dVar 2) (dCons (dVar 1) dNil))) dNil))) (dCons (dTup (dCons (dTup (dCons (dVar 1) (dCons (dVar 1) dNil))) dNil)) dNil)))))))))))))))))))))))))))))))))))))))))))))))))))))))))))))))))))))))))))))) (hName 4))
def b_odd_3 : TSd := (dRet (dFn0 sp_one_of (dCons (dVar 0) (dCons (dVar 4) dNil))))
def b_odd : TSd := (dSeq b_odd_1 (dSeq b_odd_2 b_odd_3))
def b_bent_1 (sp_self : SpD) : TSd := (dIfS (dAndT (dTst (dIs "tuple" (dVar 1))) (dAndT (dTst (dBin rNeV (dVar 1) (dTup dNil))) (dTst (dBin rGtD (dFn0 sp_draw (dCons (dVar 0) (dCons (dC (.int 5)) dNil))) (dC (.int 0)))))) (dSeq (dAsg (dFn0 sp_draw (dCons (dVar 0) (dCons (dCall cLen (dCons (dVar 1) dNil)) dNil))) (hName 2)) (dRet (dBin rAddD (dBin rAddD (dSl (dVar 1) dNoP (dPart (dVar 2))) (dTup (dCons (dFn0 sp_self (dCons (dVar 0) (dCons (dBin rIxD (dVar 1) (dVar 2)) dNil))) dNil))) (dSl (dVar 1) (dPart (dBin rAddD (dVar 2) (dC (.int 1)))) dNoP)))) dNext)
def b_bent_2 (sp_self : SpD) : TSd := (dAsg (dFn0 sp_draw (dCons (dVar 0) (dCons (dC (.int 9)) dNil))) (hName 3))
def b_bent_3 (sp_self : SpD) : TSd := (dIfS (dAndT (dTst (dIs "tuple" (dVar 1))) (dTst (dBin rLtD (dVar 3) (dC (.int 7))))) (dRet (dBin rIxD (dTup (dCons (dCall cListV (dCons (dVar 1) dNil)) (dCons (dSl (dVar 1) dNoP (dPart (dNeg (dC (.int 1))))) (dCons (dBin rAddD (dVar 1) (dSl (dVar 1) (dPart (dNeg (dC (.int 1)))) dNoP)) (dCons (dRev (dVar 1)) (dCons (dSl (dVar 1) (dPart (dC (.int 1))) dNoP) (dCons (dBin rAddD (dSl (dVar 1) dNoP (dPart (dC (.int 1)))) (dVar 1)) (dCons (dTup (dCons (dVar 1) dNil)) dNil)))))))) (dVar 3))) dNext)
def b_bent_4 (sp_self : SpD) : TSd := (dIfS (dAndT (dTst (dIs "int" (dVar 1))) (dTst (dBin rLtD (dVar 3) (dC (.int 6))))) (dRet (dBin rIxD (dTup (dCons (dBin rAddD (dVar 1) (dC (.int 1))) (dCons (dBin rSubD (dC (.int 0)) (dVar 1)) (dCons (dBin rMulD (dC (.int 2)) (dVar 1)) (dCons (dBin rSubD (dVar 1) (dC (.int 2))) (dCons (dBin rEqV (dVar 1) (dC (.int 1))) (dCons (dCall cStrI (dCons (dVar 1) dNil)) dNil))))))) (dVar 3))) dNext)
def b_bent_5 (sp_self : SpD) : TSd := (dRet (dFn0 sp_odd (dCons (dVar 0) dNil)))
def b_bent (sp_self : SpD) : TSd := (dSeq (b_bent_1 sp_self) (dSeq (b_bent_2 sp_self) (dSeq (b_bent_3 sp_self) (dSeq (b_bent_4 sp_self) (b_bent_5 sp_self)))))
def b_l_is_whole : TSd := (dRet (dAnd (dIs "int" (dVar 0)) (dNot (dIs "bool" (dVar 0)))))
def b_is_lot : TSd := (dRet (dAnd (dIs "tuple" (dVar 0)) (dChain rLeD rLeD (dVar 1) (dCall cLen (dCons (dVar 0) dNil)) (dVar 2))))
def b_l_is_fraction_1 : TSd := (dIfS (dOrT (dNotT (dTst (dFn0 sp_is_lot (dCons (dVar 0) (dCons (dC (.int 2)) (dCons (dC (.int 2)) dNil)))))) (dNotT (dTst (dCall cAll (dCons (dLcV (dIter (dVar 0)) 1 dYes (dFn0 sp_l_is_whole (dCons (dVar 1) dNil))) dNil))))) (dRet (dC (.bool false))) dNext)
def b_l_is_fraction_2 : TSd := (dRet (dAnd (dBin rGtD (dBin rIxD (dVar 0) (dC (.int 1))) (dC (.int 0))) (dBin rEqV (dFn0 sp_divisor (dCons (dBin rIxD (dVar 0) (dC (.int 0))) (dCons (dBin rIxD (dVar 0) (dC (.int 1))) dNil))) (dC (.int 1)))))
def b_l_is_fraction : TSd := (dSeq b_l_is_fraction_1 b_l_is_fraction_2)
def b_is_told : TSd := (dRet (dAnd (dFn0 sp_is_lot (dCons (dVar 0) (dCons (dC (.int 2)) (dCons (dC (.int 2)) dNil)))) (dCall cAll (dCons (dLcV (dIter (dVar 0)) 1 dYes (dFn0 sp_l_is_fraction (dCons (dVar 1) dNil))) dNil))))
def b_number_1 : TSd := (dPar 1 2 (dCons (dFn0 sp_draw (dCons (dVar 0) (dCons (dC (.int 10)) dNil))) (dCons (dFn0 sp_one_of (dCons (dVar 0) (dCons (dTup (dCons (dC (.int 1)) (dCons (dC (.int 1)) (dCons (dC (.int 1)) (dCons (dC (.int 2)) (dCons (dC (.int 3)) (dCons (dC (.int 6)) (dCons (dC (.int 7)) dNil)))))))) dNil))) dNil)))
def b_number_2 : TSd := (dAsg (dIf (dTst (dBin rLtD (dVar 1) (dC (.int 8)))) (dBin rSubD (dFn0 sp_draw (dCons (dVar 0) (dCons (dC (.int 9)) dNil))) (dC (.int 4))) (dBin rSubD (dFn0 sp_draw (dCons (dVar 0) (dCons (dC (.int 2000001)) dNil))) (dC (.int 1000000)))) (hName 3))
def b_number_3 : TSd := (dRet (dFn0 sp_part (dCons (dVar 3) (dCons (dIf (dTst (dBin rLtD (dVar 1) (dC (.int 9)))) (dVar 2) (dBin rAddD (dC (.int 1000)) (dFn0 sp_draw (dCons (dVar 0) (dCons (dC (.int 1000000)) dNil))))) dNil))))
def b_number : TSd := (dSeq b_number_1 (dSeq b_number_2 b_number_3))
def b_third_1 : TSd := (dAsg (dFn0 sp_draw (dCons (dVar 0) (dCons (dC (.int 5)) dNil))) (hName 3))
def b_third_2 : TSd := (dIfS (dTst (dBin rEqV (dVar 3) (dC (.int 4)))) (dRet (dFn0 sp_own (dCons (dTup (dCons (dFn0 sp_number (dCons (dVar 0) dNil)) (dCons (dFn0 sp_number (dCons (dVar 0) dNil)) dNil))) dNil))) dNext)
def b_third_3 : TSd := (dPar 4 5 (dCons (dFn0 sp_one_of (dCons (dVar 0) (dCons (dTup (dCons (dC (.int 1)) (dCons (dC (.int 1)) (dCons (dC (.int 2)) (dCons (dC (.int 3)) (dCons (dC (.int 4)) dNil)))))) dNil))) (dCons (dBin rSubD (dFn0 sp_draw (dCons (dVar 0) (dCons (dC (.int 9)) dNil))) (dC (.int 2))) dNil)))
def b_third_4 : TSd := (dPar 6 7 (dCons (dBin rAddD (dBin rMulD (dBin rMulD (dBin rIxD (dVar 1) (dC (.int 0))) (dBin rIxD (dVar 2) (dC (.int 2)))) (dBin rSubD (dVar 4) (dVar 5))) (dBin rMulD (dBin rMulD (dBin rIxD (dVar 2) (dC (.int 0))) (dBin rIxD (dVar 1) (dC (.int 2)))) (dVar 5))) (dCons (dBin rAddD (dBin rMulD (dBin rMulD (dBin rIxD (dVar 1) (dC (.int 1))) (dBin rIxD (dVar 2) (dC (.int 2)))) (dBin rSubD (dVar 4) (dVar 5))) (dBin rMulD (dBin rMulD (dBin rIxD (dVar 2) (dC (.int 1))) (dBin rIxD (dVar 1) (dC (.int 2)))) (dVar 5))) dNil)))
def b_third_5 : TSd := (dPar 8 9 (dCons (dBin rMulD (dBin rMulD (dVar 4) (dBin rIxD (dVar 1) (dC (.int 2)))) (dBin rIxD (dVar 2) (dC (.int 2)))) (dCons (dBin rAddD (dBin rPowD (dC (.int 10)) (dC (.int 6))) (dBin rMulD (dC (.int 3)) (dFn0 sp_draw (dCons (dVar 0) (dCons (dC (.int 100)) dNil))))) dNil)))
def b_third_6 : TSd := (dIfS (dTst (dBin rLtD (dVar 3) (dC (.int 3)))) (dRet (dFn0 sp_place (dCons (dVar 6) (dCons (dVar 7) (dCons (dVar 8) dNil))))) dNext)
def b_third_7 : TSd := (dIfS (dTst (dBin rEqV (dFn0 sp_draw (dCons (dVar 0) (dCons (dC (.int 2)) dNil))) (dC (.int 0)))) (dRet (dFn0 sp_place (dCons (dBin rMulD (dVar 6) (dVar 9)) (dCons (dBin rAddD (dBin rMulD (dVar 7) (dVar 9)) (dVar 8)) (dCons (dBin rMulD (dVar 8) (dVar 9)) dNil))))) dNext)
def b_third_8 : TSd := (dRet (dFn0 sp_place (dCons (dBin rSubD (dBin rMulD (dVar 6) (dVar 9)) (dVar 8)) (dCons (dBin rMulD (dVar 7) (dVar 9)) (dCons (dBin rMulD (dVar 8) (dVar 9)) dNil)))))
def b_third : TSd := (dSeq b_third_1 (dSeq b_third_2 (dSeq b_third_3 (dSeq b_third_4 (dSeq b_third_5 (dSeq b_third_6 (dSeq b_third_7 b_third_8)))))))
def b_l_sign : TSd := (dRet (dIf (dTst (dBin rGtD (dVar 0) (dC (.int 0)))) (dC (.int 1)) (dIf (dTst (dBin rEqV (dVar 0) (dC (.int 0)))) (dC (.int 0)) (dNeg (dC (.int 1))))))
def b_right_1 : TSd := (dPar 1 2 (dCons (dTup (dCons (dFn0 sp_number (dCons (dVar 0) dNil)) (dCons (dFn0 sp_number (dCons (dVar 0) dNil)) dNil))) (dCons (dTup (dCons (dFn0 sp_number (dCons (dVar 0) dNil)) (dCons (dFn0 sp_number (dCons (dVar 0) dNil)) dNil))) dNil)))
def b_right_2 : TSd := (dIfS (dTst (dBin rEqV (dFn0 sp_draw (dCons (dVar 0) (dCons (dC (.int 8)) dNil))) (dC (.int 0)))) (dAsg (dVar 1) (hName 2)) (dIfS (dTst (dBin rEqV (dFn0 sp_draw (dCons (dVar 0) (dCons (dC (.int 4)) dNil))) (dC (.int 0)))) (dAsg (dIf (dTst (dBin rEqV (dFn0 sp_draw (dCons (dVar 0) (dCons (dC (.int 2)) dNil))) (dC (.int 0)))) (dTup (dCons (dBin rIxD (dVar 1) (dC (.int 0))) (dCons (dBin rIxD (dVar 2) (dC (.int 1))) dNil))) (dTup (dCons (dBin rIxD (dVar 2) (dC (.int 0))) (dCons (dBin rIxD (dVar 1) (dC (.int 1))) dNil)))) (hName 2)) dNext))
def b_right_3 : TSd := (dPar 3 4 (dCons (dFn0 sp_own (dCons (dVar 1) dNil)) (dCons (dFn0 sp_own (dCons (dVar 2) dNil)) dNil)))
def b_right_4 : TSd := (dAsg (dFn0 sp_third (dCons (dVar 0) (dCons (dVar 3) (dCons (dVar 4) dNil)))) (hName 5))
def b_right_5 : TSd := (dAsg (dFn0 sp_told (dCons (dVar 5) dNil)) (hName 6))
def b_right_6 : TSd := (dAsg (dFn0 sp_l_sign (dCons (dFn0 sp_side (dCons (dVar 3) (dCons (dVar 4) (dCons (dVar 5) dNil)))) dNil)) (hName 7))
def b_right_7 : TSd := (dAsg (dLstV (dCons (dFn0 sp_turn_of (dCons (dVar 1) (dCons (dVar 2) (dCons (dVar 6) dNil)))) (dCons (dFn0 sp_turn_of (dCons (dVar 2) (dCons (dVar 6) (dCons (dVar 1) dNil)))) (dCons (dFn0 sp_turn_of (dCons (dVar 6) (dCons (dVar 1) (dCons (dVar 2) dNil)))) (dCons (dFnK sp_turn_of [1, 2, 0] (dCons (dVar 6) (dCons (dVar 1) (dCons (dVar 2) dNil)))) dNil))))) (hName 8))
def b_right_8 : TSd := (dAsg (dBin rAddD (dVar 8) (dLstV (dCons (dFn0 sp_turn_of (dCons (dVar 2) (dCons (dVar 1) (dCons (dVar 6) dNil)))) (dCons (dFn0 sp_turn_of (dCons (dVar 1) (dCons (dVar 6) (dCons (dVar 2) dNil)))) (dCons (dFnK sp_turn_of [0, 1, 2] (dCons (dVar 6) (dCons (dVar 2) (dCons (dVar 1) dNil)))) dNil))))) (hName 8))
def b_right_9 : TSd := (dIfS (dTst (dBin rNeV (dCall cRepr (dCons (dVar 8) dNil)) (dCall cRepr (dCons (dLstV (dCons (dVar 7) (dCons (dVar 7) (dCons (dVar 7) (dCons (dVar 7) (dCons (dBin rSubD (dC (.int 0)) (dVar 7)) (dCons (dBin rSubD (dC (.int 0)) (dVar 7)) (dCons (dBin rSubD (dC (.int 0)) (dVar 7)) dNil)))))))) dNil)))) (dRet (dC (.bool false))) dNext)
def b_right_10 : TSd := (dIfS (dTst (dBin rNeV (dCall cRepr (dCons (dLstV (dCons (dFn0 sp_turn_of (dCons (dVar 1) (dCons (dVar 1) (dCons (dVar 6) dNil)))) (dCons (dFn0 sp_turn_of (dCons (dVar 1) (dCons (dVar 6) (dCons (dVar 6) dNil)))) (dCons (dFn0 sp_turn_of (dCons (dVar 6) (dCons (dVar 1) (dCons (dVar 6) dNil)))) dNil)))) dNil)) (dCall cRepr (dCons (dLstV (dCons (dC (.int 0)) (dCons (dC (.int 0)) (dCons (dC (.int 0)) dNil)))) dNil)))) (dRet (dC (.bool false))) dNext)
def b_right_11 : TSd := (dIfS (dTst (dBin rNeV (dVar 1) (dVar 2))) (dSeq (dAsg (dFn0 sp_l_lies_on (dCons (dVar 3) (dCons (dVar 4) (dCons (dVar 5) dNil)))) (hName 9)) (dSeq (dAsg (dTup (dCons (dVar 1) (dCons (dVar 2) dNil))) (hName 10)) (dSeq (dAsg (dLstV (dCons (dFn0 sp_is_on (dCons (dVar 10) (dCons (dVar 6) dNil))) (dCons (dFn0 sp_is_on (dCons (dRev (dVar 10)) (dCons (dVar 6) dNil))) (dCons (dFnK sp_is_on [1, 0] (dCons (dVar 6) (dCons (dVar 10) dNil))) (dCons (dFn0 sp_is_on (dCons (dVar 10) (dCons (dVar 2) dNil))) dNil))))) (hName 8)) (dIfS (dTst (dBin rNeV (dCall cRepr (dCons (dVar 8) dNil)) (dCall cRepr (dCons (dLstV (dCons (dVar 9) (dCons (dVar 9) (dCons (dVar 9) (dCons (dC (.bool true)) dNil))))) dNil)))) (dRet (dC (.bool false))) dNext)))) dNext)
def b_right_12 : TSd := (dAsg (dLst (dCons (dVar 1) (dCons (dVar 6) (dCons (dFn0 sp_bent (dCons (dVar 0) (dCons (dVar 2) dNil))) (dCons (dFn0 sp_bent (dCons (dVar 0) (dCons (dVar 6) dNil))) (dCons (dFn0 sp_odd (dCons (dVar 0) dNil)) (dCons (dBin rIxD (dVar 1) (dC (.int 0))) dNil))))))) (hName 11))
def b_right_13 : TSd := (dDrop (dApp (dVar 11) (dTup (dCons (dBin rIxD (dVar 1) (dC (.int 0))) (dCons (dFn0 sp_odd (dCons (dVar 0) dNil)) dNil)))))
def b_right_14 : TSd := (dIfS (dTst (dBin rNeV (dCall cRepr (dCons (dFnK sp_is_point [0] (dCons (dBin rIxD (dVar 11) (dC (.int 2))) dNil)) dNil)) (dCall cRepr (dCons (dFn0 sp_is_told (dCons (dBin rIxD (dVar 11) (dC (.int 2))) dNil)) dNil)))) (dRet (dC (.bool false))) dNext)
def b_right_15 : TSd := (dRet (dBin rEqV (dCall cRepr (dCons (dLcV (dIter (dVar 11)) 12 dYes (dFn0 sp_is_point (dCons (dVar 12) dNil))) dNil)) (dCall cRepr (dCons (dLcV (dIter (dVar 11)) 12 dYes (dFn0 sp_is_told (dCons (dVar 12) dNil))) dNil))))
def b_right : TSd := (dSeq b_right_1 (dSeq b_right_2 (dSeq b_right_3 (dSeq b_right_4 (dSeq b_right_5 (dSeq b_right_6 (dSeq b_right_7 (dSeq b_right_8 (dSeq b_right_9 (dSeq b_right_10 (dSeq b_right_11 (dSeq b_right_12 (dSeq b_right_13 (dSeq b_right_14 b_right_15))))))))))))))
def b_law : TSd := (dRet (dCall cAll (dCons (dLcV (dRng1 (dCons (dCall cMax (dCons (dC (.int 2)) (dCons (dCall cMin (dCons (dCall cLen (dCons (dVar 0) dNil)) (dCons (dC (.int 4)) dNil))) dNil))) dNil)) 1 dYes (dFn0 sp_right (dCons (dFn0 sp_spring (dCons (dVar 0) (dCons (dVar 1) dNil))) dNil))) dNil)))
end K02
local macro_rules | `(tactic| walk_at "gk") => `(tactic| simp only [↓K02.sp_divisor, ↓K02.sp_part, ↓K02.sp_place, ↓K02.sp_is_whole, ↓K02.sp_l_is_whole, ↓K02.sp_is_row, ↓K02.sp_is_lot, ↓K02.sp_is_fraction, ↓K02.sp_l_is_fraction, ↓K02.sp_is_place, ↓K02.sp_is_point, ↓K02.sp_is_told, ↓K02.sp_told, ↓K02.sp_own, ↓K02.sp_side, ↓K02.sp_l_is_less, ↓K02.sp_l_lies_on, ↓K02.sp_l_sign, ↓K02.sp_sign, ↓K02.sp_scaled, ↓K02.sp_crossed, ↓K02.sp_along, ↓K02.sp_is_less, ↓DL.dSeq, ↓DL.dNext, ↓DL.dAsg, ↓DL.dRet, ↓DL.dRetN, ↓DL.dIfS, ↓DL.dDrop, ↓DL.dBin, ↓DL.dCons, ↓DL.dNil, ↓DL.dTup, ↓DL.dC, ↓DL.dNeg, ↓DL.dAnd, ↓DL.dOr, ↓DL.dNot, ↓DL.dIf, ↓DL.dTst, ↓DL.asB, ↓DL.dChain, ↓DL.dAndT, ↓DL.dOrT, ↓DL.dNotT, ↓DL.dCall, ↓DL.dFn0, ↓DL.dFnK, ↓DL.dIs, ↓DL.dSl, ↓DL.dNoP, ↓DL.dPart, ↓DL.dRev, ↓DL.dLst, ↓DL.dLstV, ↓DL.cListV, ↓DL.dDict, ↓DL.dPar, ↓DL.dPar3, ↓DL.hTup, ↓DL.hCons, ↓DL.nil_go, ↓DL.hName, ↓DL.hSub, ↓DL.rI2, ↓DL.rSubD, ↓DL.rMulD, ↓DL.rDivD, ↓DL.rModD, ↓DL.rPowD, ↓DL.rLtD, ↓DL.rLeD, ↓DL.rGtD, ↓DL.rGeD, ↓DL.rAddD, ↓DL.ixt_0, ↓DL.ixt_1, ↓DL.ixt_2, ↓DL.ixt_3, ↓DL.ixt_4, ↓DL.ixl_0, ↓DL.ixl_1, ↓DL.ixl_2, ↓DL.ixl_3, ↓DL.ixl_4, ↓DL.rEqV, ↓DL.rNeV, ↓DL.rSlD, ↓DL.cLen, ↓DL.cAbs, ↓DL.cInt, ↓DL.cStrI, ↓DL.cDivmod, ↓DL.cMin, ↓DL.cMax, ↓DL.cGcd, ↓DL.cLcm, ↓DL.cAll, ↓DL.cRepr, ↓DL.cList, ↓DL.cTuple, ↓DL.rC1, ↓DL.rC2, ↓DL.dNever, ↓DL.dIter, ↓DL.dRng1, ↓DL.dRng2, ↓DL.dYes,
  ↓DL.frz_d, ↓DL.var_zero, ↓DL.var_succ, ↓DL.var_set, ↓DL.var_ne, DL.own_some, DL.no_own2, DL.eqv_int, DL.sh_int, DL.sh_bool, DL.kit_int, DL.kit_bool, DL.kit_tuple, DL.kit_str, DL.is_int, DL.is_bool, DL.is_tuple, DL.is_str, DL.pures_nil, DL.pures_cons, Option.map_some, List.length_cons, List.length_nil, List.length_set, List.map_cons, List.map_nil, DL.pick, List.filterMap_cons, List.filterMap_nil,
  true_and, and_true, ite_true, ite_false, if_true, if_false, reduceIte, reduceCtorEq, ne_eq, not_false_eq_true, Nat.reduceAdd, Nat.reduceLT, Nat.reduceEqDiff, decide_eq_true_eq, Bool.not_true, Bool.not_false, Bool.false_eq_true, eq_self])
namespace K02
open PySem PySem.Spec PyProof.Rows L2 DL
theorem mulW {i j : Int} {a b : Nat} (ha : B a i) (hb : B b j) (h0 : 0 < a) (h1 : 0 < b) (h : a + b ≤ 1000000) : CMulW i j := wide_mul ha hb h0 h1 h
theorem B_of {n : Nat} {i : Int} (k : Nat) (hk : i.natAbs < k) (h : k ≤ 2 ^ n) : B n i := Nat.lt_of_lt_of_le hk h
theorem r_is_whole : ∀ ds st Q, sp_is_whole ds st Q → b_is_whole { nx := fun _ s' => Q (.d .none) s', rt := Q } (startD N_is_whole ds) st := by
  intro ds st Q h
  unfold sp_is_whole at h
  split at h
  · rename_i x
    walk_at "st"
    unfold b_is_whole
    walk_at "go"
    cases x <;> simpa [isW] using h
  · exact h.elim
theorem r_is_row : ∀ ds st Q, sp_is_row ds st Q → b_is_row { nx := fun _ s' => Q (.d .none) s', rt := Q } (startD N_is_row ds) st := by
  intro ds st Q h
  unfold sp_is_row at h
  split at h
  · rename_i x lo hi
    walk_at "st"
    unfold b_is_row
    walk_at "go"
    cases x with
    | tuple xs =>
      simp only [isRow] at h
      walk_at "go"
      by_cases h1 : lo ≤ (xs.length : Int)
      · simpa [h1] using h
      · simpa [h1] using h
    | _ => simpa [isRow] using h
  · exact h.elim
theorem small_div {i j : Int} (h0 : 0 < j) (h : j < 2 ^ 40) : CDivP i j := by
  refine ⟨h0, ?_⟩
  have hj : ¬ (j == 0) = true := by simpa using (show j ≠ 0 by omega)
  have l : j.natAbs.log2 ≤ 39 := PySem.W.mg_log (k := 39) (by omega)
  show (decide ((if j == 0 then 0 else j.natAbs.log2 / 30 + 1) > 300) && _) = false
  rw [if_neg hj, decide_eq_false (by omega), Bool.false_and]
theorem bm1 (v : Int) : B 40 (v % 2147483629) := by
  have t0 := Int.emod_nonneg v (show (2147483629 : Int) ≠ 0 by decide)
  have t1 := Int.emod_lt_of_pos v (show (0 : Int) < 2147483629 by decide)
  unfold B
  omega
theorem bm2 (s : Int) : B 40 (s % 6007 + 50021) := by
  have t0 := Int.emod_nonneg s (show (6007 : Int) ≠ 0 by decide)
  have t1 := Int.emod_lt_of_pos s (show (0 : Int) < 6007 by decide)
  unfold B
  omega
theorem r_draw : ∀ ds st Q, sp_draw ds st Q → b_draw { nx := fun _ s' => Q (.d .none) s', rt := Q } (startD N_draw ds) st := by
  intro ds st Q h
  unfold sp_draw at h
  split at h
  · rename_i p m
    obtain ⟨hm, hm2, n, xs, hst, ⟨x, y, z, rfl, h1, h2, h3, h4⟩, hn, k⟩ := h
    refine ⟨_, rfl, _, _, hst, rfl, trivial, ?_⟩
    show if decide (0 < x) = true then _ else _
    by_cases hx : 0 < x
    · rw [if_pos (decide_eq_true hx)]
      refine ⟨_, rfl, _, _, hst, rfl, _, rfl, small_div hm hm2, .inl ⟨rfl, _, rfl, _, 0, hst, rfl, rfl, _, rfl, .inl ?_⟩⟩
      exact k _ _ ⟨_, rfl, Int.emod_nonneg _ (by omega), Int.emod_lt_of_pos _ hm⟩ ⟨_, y, z, rfl, h1, h2, h3, by omega⟩
    · rw [if_neg (by simpa using hx)]
      have hz : 0 ≤ z + 1 := by omega
      refine ⟨_, rfl, _, _, hst, rfl, .inl ⟨_, rfl, _, 2, hst, rfl, ?_⟩⟩
      have e1 : (put st p ([I x, I y, I z].set 2 (I (z + 1)))) p = some [I x, I y, I (z + 1)] := put_same
      have bz : B 64 (z + 1) := by
        unfold B
        omega
      refine ⟨_, rfl, _, _, e1, rfl, _, rfl, _, _, e1, rfl, mulW (a := 20) (b := 64) (by unfold B; decide) bz (by decide) (by decide) (by decide), ⟨trivial, (show (0 : Int) < 2147483629 by decide), .inl ?_⟩⟩
      refine ⟨_, rfl, _, rfl, trivial, (show (0 : Int) < 6007 by decide), ?_⟩
      refine ⟨mulW (a := 40) (b := 40) (bm1 _) (bm2 _) (by decide) (by decide) (by decide), ?_⟩
      refine ⟨_, rfl, _, _, e1, rfl, mulW (a := 20) (b := 64) (by unfold B; decide) bz (by decide) (by decide) (by decide), trivial, (show (0 : Int) < 2147483629 by decide), .inl ?_⟩
      refine ⟨_, rfl, _, 1, e1, rfl, ?_⟩
      refine ⟨_, rfl, _, _, put_same, rfl, wide_div (b := 20) (by decide) (by decide) (by decide) (by decide), trivial, _, rfl, hm, .inl ?_⟩
      rw [put_put]
      exact k _ _ ⟨_, rfl, Int.emod_nonneg _ (by omega), Int.emod_lt_of_pos _ hm⟩ ⟨x, _, z + 1, rfl, Int.emod_nonneg _ (by decide), Int.emod_lt_of_pos _ (by decide), hz, by omega⟩
  · exact h.elim
end K02
namespace K02
open PySem PySem.Spec PyProof.Rows L2 DL
theorem cut_ints {α β : Type} (f : α → β) (xs : List α) (lo hi : Option Int) : cutP (xs.map f) lo hi = (cutP xs lo hi).map f := by
  unfold cutP
  rw [List.length_map, List.map_take, List.map_drop]
theorem mixB {m : Int} (h0 : 0 ≤ m) (h1 : m < 2147483629) : B 40 m := by
  unfold B
  omega
theorem r_spring : ∀ ds st Q, sp_spring ds st Q → b_spring { nx := fun _ s' => Q (.d .none) s', rt := Q } (startD N_spring ds) st := by
  intro ds st Q h
  unfold sp_spring at h
  split at h
  · rename_i ns t
    obtain ⟨hl, h0, h1, k⟩ := h
    walk_at "st"
    have bt : B 40 t := by
      unfold B
      omega
    refine ⟨_, rfl, mulW (a := 40) (b := 40) (by unfold B; decide) bt (by decide) (by decide) (by decide), .inl ?_⟩
    refine ⟨_, rfl, ?_⟩
    refine ⟨fun _ e' st' => st' = st ∧ ∃ (m : Int) (c : Option D), e' = [some (.scr ns), some (.d (.int t)), some (I m), c, none] ∧ 0 ≤ m ∧ m < 2147483629, ⟨rfl, 522017 + 9241 * t, none, rfl, by omega, by omega⟩, ?_⟩
    rintro i e' st' ⟨rfl, m, c, rfl, m0, m1⟩
    refine ⟨(fun a ds z => nomatch z), fun _ => ?_, fun d hd => ?_⟩
    · -- behind the loop
      have own : ∃ o : Int, ∀ (K : D → Sto → Prop), K (I o) st' → (dIf (dTst (dBin rLtD (dVar 1) (dCall cLen (dCons (dVar 0) dNil)))) (dCall cInt (dCons (dBin rIxD (dVar 0) (dVar 1)) dNil)) (dC (.int 0))) [some (.scr ns), some (.d (.int t)), some (I m), c, none] st' K := by
        by_cases ht : t < ns.length
        · have hlt : t.toNat < ns.length := by omega
          refine ⟨ns[t.toNat], fun K hK => ?_⟩
          refine ⟨_, rfl, _, rfl, _, rfl, trivial, ?_⟩
          show if decide (t < ((ns.map fun n => D.d (.int n)).length : Int)) = true then _ else _
          rw [if_pos (decide_eq_true (by rw [List.length_map]; exact ht))]
          refine ⟨_, rfl, _, rfl, _, D.d (.int ns[t.toNat]), rfl, ?_, trivial, hK⟩
          have e1 : ((t.toNat : Nat) : Int) = t := Int.toNat_of_nonneg h0
          have e2 := atI_nat (xs := ns.map fun n => D.d (.int n)) (j := t.toNat) (v := D.d (.int ns[t.toNat])) (by rw [List.getElem?_map, List.getElem?_eq_getElem hlt]; rfl)
          rw [e1] at e2
          exact e2
        · refine ⟨0, fun K hK => ?_⟩
          refine ⟨_, rfl, _, rfl, _, rfl, trivial, ?_⟩
          show if decide (t < ((ns.map fun n => D.d (.int n)).length : Int)) = true then _ else _
          rw [if_neg (by rw [List.length_map]; simpa using ht)]
          exact hK
      obtain ⟨o, ho⟩ := own
      refine ho _ (.inl ?_)
      unfold b_spring_4 b_spring_5
      walk_at "go"
      have mb := mixB m0 m1
      have q0 := Int.emod_nonneg o (show (2147483587 : Int) ≠ 0 by decide)
      have q1 := Int.emod_lt_of_pos o (show (0 : Int) < 2147483587 by decide)
      refine ⟨mulW (a := 40) (b := 40) mb (by unfold B; decide) (by decide) (by decide) (by decide), by decide, mulW (a := 40) (b := 40) (by unfold B; omega) (by unfold B; decide) (by decide) (by decide) (by decide), by decide, ?_⟩
      have fin : ∀ v w : Int, 0 ≤ w → w < 2147483629 → mkL [D.d (.int v), D.d (.int w), D.d (.int 0)] st' (frz Q) := fun v w h2 h3 => .inr fun p hp => .inl (k p _ hp ⟨v, w, 0, rfl, h2, h3, by omega, by omega⟩)
      have z0 := Int.emod_nonneg (m * 61 + o % 2147483587 * 30011 + 7) (show (2147483629 : Int) ≠ 0 by decide)
      have z1 := Int.emod_lt_of_pos (m * 61 + o % 2147483587 * 30011 + 7) (show (0 : Int) < 2147483629 by decide)
      have three : 3 ≤ sizeLine := by decide
      by_cases hneg : o < 0
      · rw [if_pos hneg]
        exact ⟨three, fin _ _ z0 z1⟩
      · rw [if_neg hneg]
        refine ⟨⟨by decide, by decide, by decide⟩, ?_⟩
        split
        · exact ⟨three, fin _ _ z0 z1⟩
        · exact ⟨three, fin _ _ z0 z1⟩
    · have hd' : (((cutP ns none (some 9)).map PyData.int).map D.d)[i]? = some d := hd
      rw [List.getElem?_map, List.getElem?_map] at hd'
      cases hc : (cutP ns none (some 9))[i]? with
      | none =>
        rw [hc] at hd'
        cases hd'
      | some v =>
        rw [hc] at hd'
        cases hd'
        show (dAsg _ _) _ _ _
        walk_at "go"
        refine ⟨mulW (a := 40) (b := 40) (mixB m0 m1) (by unfold B; decide) (by decide) (by decide) (by decide), by decide, by decide, _, some (D.d (.int v)), rfl, Int.emod_nonneg _ (by decide), Int.emod_lt_of_pos _ (by decide)⟩
  · exact h.elim
theorem r_one_of : ∀ ds st Q, sp_one_of ds st Q → b_one_of { nx := fun _ s' => Q (.d .none) s', rt := Q } (startD N_one_of ds) st := by
  intro ds st Q h
  unfold sp_one_of at h
  split at h
  · rename_i p xs
    obtain ⟨h0, h1, n, ys, hst, hy, hn, k⟩ := h
    refine ⟨_, rfl, _, rfl, _, rfl, _, rfl, by rw [List.length_map]; omega, by rw [List.length_map]; omega, n, ys, hst, hy, hn, ?_⟩
    rintro _ ys' ⟨i, rfl, i0, i1⟩ hy'
    rw [List.length_map] at i1
    have hlt : i.toNat < xs.length := by omega
    refine ⟨_, D.d xs[i.toNat], rfl, ?_, .inl (k _ ys' ⟨_, rfl, List.getElem_mem hlt⟩ hy')⟩
    have e1 : ((i.toNat : Nat) : Int) = i := Int.toNat_of_nonneg i0
    have e2 := atI_nat (xs := xs.map D.d) (j := i.toNat) (v := D.d xs[i.toNat]) (by rw [List.getElem?_map, List.getElem?_eq_getElem hlt]; rfl)
    rw [e1] at e2
    exact e2
  · rename_i p xs
    obtain ⟨h0, h1, n, ys, hst, hy, hn, k⟩ := h
    refine ⟨_, rfl, _, rfl, _, rfl, by omega, by omega, n, ys, hst, hy, hn, ?_⟩
    rintro _ ys' ⟨i, rfl, i0, i1⟩ hy'
    have hlt : i.toNat < xs.length := by omega
    refine ⟨xs[i.toNat], ?_, .inl (k _ ys' ⟨_, rfl, List.getElem_mem hlt⟩ hy')⟩
    have e1 : ((i.toNat : Nat) : Int) = i := Int.toNat_of_nonneg i0
    have e2 := atI_nat (xs := xs) (j := i.toNat) (List.getElem?_eq_getElem hlt)
    rw [e1] at e2
    exact e2
  · exact h.elim
theorem r_odd : ∀ ds st Q, sp_odd ds st Q → b_odd { nx := fun _ s' => Q (.d .none) s', rt := Q } (startD N_odd ds) st := by
  intro ds st Q h
  unfold sp_odd at h
  split at h
  · rename_i p
    obtain ⟨n, ys, hst, hy, hn, k⟩ := h
    refine ⟨by decide, by decide, by decide, by decide, by decide, by decide, by decide, by decide, by decide, by decide, .inl ⟨rfl, rfl, ?_⟩⟩
    dsimp only
    simp only [↓dSeq, ↓dAsg]
    apply lstV_then
    · walk_at "val"
    · decide
    · intro xs hl
      refine Or.inl ⟨_, rfl, _, rfl, ?_, ?_, n, ys, hst, hy, hn, fun d ys' hd hy' => .inl (k d ys' (let ⟨x, e, _⟩ := hd; ⟨x, e⟩) hy')⟩
      · rw [hl]
        decide
      · rw [hl]
        decide
  · exact h.elim
theorem r_divisor : ∀ ds st Q, sp_divisor ds st Q → b_divisor { nx := fun _ s' => Q (.d .none) s', rt := Q } (startD N_divisor ds) st := by
  intro ds st Q h
  unfold sp_divisor at h
  split at h
  · rename_i a b
    walk_at "st"
    refine ⟨_, rfl, trivial, _, rfl, trivial, ?_⟩
    refine ⟨fun m e' st' => st' = st ∧ ∃ f : Nat, e' = [some (I a), some (I b), some (I f), some (I m)] ∧ Nat.gcd f m = Nat.gcd a.natAbs b.natAbs, ⟨b.natAbs, rfl, a.natAbs, ?_, rfl⟩, ?_⟩
    · have ha : (if a < 0 then -a else a) = (a.natAbs : Int) := by split <;> omega
      have hb : (if b < 0 then -b else b) = (b.natAbs : Int) := by split <;> omega
      show [_, _, some (D.d (.int (if a < 0 then -a else a))), some (D.d (.int (if b < 0 then -b else b)))] = _
      rw [ha, hb]
    · rintro m e' st' ⟨rfl, f, rfl, hg⟩
      refine ⟨_, rfl, ?_⟩
      show if (!decide ((m : Int) = 0)) = true then _ else _
      by_cases hm : m = 0
      · subst hm
        rw [if_neg (by decide)]
        rw [Nat.gcd_zero_right] at hg
        refine ⟨_, rfl, .inl ?_⟩
        show Q (I (f : Int)) st'
        rw [hg]
        exact h
      · rw [if_pos (by simpa using hm)]
        refine ⟨_, rfl, _, rfl, trivial, _, rfl, by omega, f % m, Nat.mod_lt _ (Nat.pos_of_ne_zero hm), rfl, m, ?_, ?_⟩
        · show [_, _, some (I (m : Int)), some (D.d (.int ((f : Int) % (m : Int))))] = _
          rw [← Int.natCast_emod]
        · rw [Nat.gcd_comm, ← Nat.gcd_rec, Nat.gcd_comm]
          exact hg
  · exact h.elim
end K02
namespace K02
open PySem PySem.Spec PyProof.Rows L2 DL
theorem is_then {T : String} (hT : ∀ d, (kitB (tyD d) T).isSome = true) {i : Nat} {e : Ed} {st : Sto} {Q : Kd} {x : PyData} (h : e[i]? = some (some (.d x))) (q : Q (.d (.bool (isT T (.d x)))) st) : dIs T (dVar i) e st Q := ⟨_, h, (fun a z => nomatch z), hT _, q⟩
theorem kt (d : D) : (kitB (tyD d) "tuple").isSome = true := kit_all (by decide +kernel) d
theorem ki (d : D) : (kitB (tyD d) "int").isSome = true := kit_all (by decide +kernel) d
theorem cutP_len {α : Type} (xs : List α) (lo hi : Option Int) : (cutP xs lo hi).length ≤ xs.length := by
  unfold cutP
  rw [List.length_take, List.length_drop]
  omega
theorem at_small {α : Type} {xs : List α} {i : Int} (h0 : 0 ≤ i) (h1 : i < xs.length) : ∃ x, x ∈ xs ∧ atI xs i = some x := by
  have hlt : i.toNat < xs.length := by omega
  have e1 : ((i.toNat : Nat) : Int) = i := Int.toNat_of_nonneg h0
  have e2 := atI_nat (xs := xs) (j := i.toNat) (List.getElem?_eq_getElem hlt)
  rw [e1] at e2
  exact ⟨_, List.getElem_mem hlt, e2⟩
theorem big_ok {n : Nat} (h : n ≤ 3000) : n ≤ sizeLine := Nat.le_trans h (by decide)
theorem r_bent (k : Nat) (self : SpD) (hs : ∀ j, k = j + 1 → ∀ ds st Q, sp_bentK j ds st Q → self ds st Q) : ∀ ds st Q, sp_bentK k ds st Q → b_bent self { nx := fun _ s' => Q (.d .none) s', rt := Q } (startD N_bent ds) st := by
  intro ds st Q h
  unfold sp_bentK at h
  split at h
  · rename_i p x
    obtain ⟨hx, n, ys, hst, hy, hn, kk⟩ := h
    show b_bent self _ [some (.own p), some (.d x), none, none] st
    -- what follows a draw from nine
    have rest : ∀ (ys : List D) (st : Sto), st p = some ys → SprL ys (n + 2 * k) → (∀ d xs', (∃ x, d = D.d x) → SprL xs' (n + (2 * k + 2)) → Q d (put st p xs')) →
        (dSeq (b_bent_2 self) (dSeq (b_bent_3 self) (dSeq (b_bent_4 self) (b_bent_5 self)))) { nx := fun _ s' => Q (.d .none) s', rt := Q } [some (.own p), some (.d x), none, none] st := by
      intro ys st hst hy kk
      refine ⟨_, rfl, by decide, by decide, n + 2 * k, ys, hst, hy, by omega, ?_⟩
      rintro _ zs ⟨i, rfl, i0, i1⟩ hz
      refine .inl ?_
      have kk1 : ∀ x, Q (.d x) (put st p zs) := fun x => by
        have := kk (.d x) zs ⟨x, rfl⟩ (hz.mono (by omega))
        exact this
      have last : (b_bent_5 self) { nx := fun _ s' => Q (.d .none) s', rt := Q } [some (.own p), some (.d x), none, some (I i)] (put st p zs) := by
        refine ⟨_, rfl, n + 2 * k + 1, zs, put_same, hz, by omega, ?_⟩
        rintro _ ws ⟨w, rfl⟩ hw
        rw [put_put]
        exact .inl (kk _ ws ⟨w, rfl⟩ hw)
      have four : (∀ xs, x ≠ .tuple xs) → (dSeq (b_bent_4 self) (b_bent_5 self)) { nx := fun _ s' => Q (.d .none) s', rt := Q } [some (.own p), some (.d x), none, some (I i)] (put st p zs) := by
        intro nt
        cases x with
        | int v =>
          unfold b_bent_4
          walk_at "go"
          have bv : B 1000 v := by
            cases k <;> exact hx
          split
          · refine ⟨mulW (a := 20) (b := 1000) (by unfold B; decide) bv (by decide) (by decide) (by decide), ?_, ?_, ?_⟩
            · have := PySem.Flt.log2_lt_of (by decide : 0 < 1000) bv
              omega
            · exact big_ok (by decide)
            · obtain ⟨z, hz1, hz2⟩ := at_small (xs := [PyData.int (v + 1), .int (0 - v), .int (2 * v), .int (v - 2), .bool (decide (v = 1)), .str (toString v : String)]) i0 (by simpa using (by omega))
              exact ⟨z, hz2, .inl (kk1 z)⟩
          · exact last
        | tuple xs => exact absurd rfl (nt xs)
        | bool b => exact absurd hx (by cases k <;> exact id)
        | _ =>
          unfold b_bent_4
          walk_at "go"
          exact last
      cases x with
      | tuple xs =>
        have hl : xs.length ≤ 1000 := by
          cases k with
          | zero => exact hx.elim
          | succ k => exact hx.1
        unfold b_bent_3 b_bent_4
        walk_at "go"
        split
        · have c1 := cutP_len xs (some (-1)) none
          have c2 := cutP_len xs none (some 1)
          refine ⟨big_ok (by omega), big_ok (by omega), big_ok (by decide), big_ok (by decide), ?_⟩
          obtain ⟨z, hz1, hz2⟩ := at_small (xs := [PyData.list xs, .tuple (cutP xs none (some (-1))), .tuple (xs ++ cutP xs (some (-1)) none), .tuple xs.reverse, .tuple (cutP xs (some 1) none), .tuple (cutP xs none (some 1) ++ xs), .tuple [.tuple xs]]) i0 (by simpa using (by omega))
          exact ⟨z, hz2, .inl (kk1 z)⟩
        · exact last
      | _ =>
        unfold b_bent_3
        walk_at "go"
        exact four (fun _ => (nomatch ·))
    have go2 : ∀ (ys : List D) (st' : Sto), (∀ d xs', (∃ x, d = D.d x) → SprL xs' (n + (2 * k + 2)) → Q d (put st' p xs')) → st' p = some ys → SprL ys (n + 2 * k) →
        (dSeq (b_bent_2 self) (dSeq (b_bent_3 self) (dSeq (b_bent_4 self) (b_bent_5 self)))) { nx := fun _ s' => Q (.d .none) s', rt := Q } [some (.own p), some (.d x), none, none] st' := fun ys st' kk hst hy => rest ys st' hst hy kk
    have skip := go2 ys st (fun d xs' hd h => kk d xs' hd h) hst (hy.mono (by omega))
    cases x with
    | tuple xs =>
      obtain ⟨j, rfl⟩ : ∃ j, k = j + 1 := by
        cases k with
        | zero => exact hx.elim
        | succ j => exact ⟨j, rfl⟩
      obtain ⟨hl, hsh, hpl⟩ := hx
      refine is_then kt rfl ?_
      rw [is_tuple]
      refine ⟨_, rfl, big_ok (by decide), hsh, by simp [SeqAt.shaped, PyData.canLay0, PyData.canLayAll0, PyData.depth, PyData.depthAll], ?_⟩
      cases xs with
      | nil => exact skip
      | cons x0 xs =>
        refine ⟨_, rfl, by decide, by decide, n, ys, hst, hy, by omega, ?_⟩
        rintro _ zs ⟨i, rfl, i0, i1⟩ hz
        refine ⟨trivial, ?_⟩
        show if decide (0 < i) = true then _ else _
        by_cases hi : 0 < i
        · rw [if_pos (decide_eq_true hi)]
          have hlen : (0 : Int) < ((x0 :: xs).length : Nat) := by
            rw [List.length_cons]
            omega
          refine ⟨_, rfl, _, rfl, hlen, by omega, n + 1, zs, put_same, hz, by omega, ?_⟩
          rintro _ ws ⟨a, rfl, a0, a1⟩ hw
          rw [put_put]
          refine .inl ⟨_, rfl, _, rfl, _, rfl, _, rfl, _, rfl, ?_⟩
          obtain ⟨y, y1, y2⟩ := at_small (xs := x0 :: xs) a0 a1
          refine ⟨y, y2, hs j rfl _ _ _ ⟨hpl y y1, n + 2, ws, put_same, hw, by omega, ?_⟩⟩
          rintro _ vs ⟨z, rfl⟩ hv
          rw [put_put]
          have c1 := cutP_len (x0 :: xs) none (some a)
          have c2 := cutP_len (x0 :: xs) (some (a + 1)) none
          refine ⟨big_ok (by show 1 ≤ 3000; omega), big_ok (by simp only [List.length_cons, List.length_nil] at *; omega), _, rfl, _, rfl, big_ok (by simp only [List.length_cons, List.length_nil, List.length_append] at *; omega), .inl ?_⟩
          exact kk _ vs ⟨_, rfl⟩ (hv.mono (by omega))
        · rw [if_neg (by simpa using hi)]
          refine go2 zs _ (fun d xs' hd h => ?_) put_same (hz.mono (by omega))
          rw [put_put]
          exact kk d xs' hd h
    | _ =>
      refine is_then kt rfl ?_
      rw [is_tuple]
      exact skip
  · exact h.elim
end K02
namespace K02
open PySem PySem.Spec PyProof.Rows L2 DL
theorem B_mul {a b n : Nat} {i j : Int} (h : B a i) (g : B b j) (hn : a + b ≤ n) : B n (i * j) := Nat.lt_of_lt_of_le (wide_lt h g) (Nat.pow_le_pow_right (by decide) hn)
theorem B_mono {a n : Nat} {i : Int} (h : B a i) (hn : a ≤ n) : B n i := Nat.lt_of_lt_of_le h (Nat.pow_le_pow_right (by decide) hn)
theorem B_sub {a b n : Nat} {i j : Int} (h : B a i) (g : B b j) (h1 : a + 1 ≤ n) (h2 : b + 1 ≤ n) : B n (i - j) := by
  have h := B_mono h (n := n - 1) (by omega)
  have g := B_mono g (n := n - 1) (by omega)
  unfold B at *
  have e : 2 ^ n = 2 ^ (n - 1) + 2 ^ (n - 1) := by
    rw [← Nat.two_mul, Nat.mul_comm, ← Nat.pow_succ]
    congr 1
    omega
  rw [e]
  omega
theorem B_add {a b n : Nat} {i j : Int} (h : B a i) (g : B b j) (h1 : a + 1 ≤ n) (h2 : b + 1 ≤ n) : B n (i + j) := by
  have := B_sub h (j := -j) (by unfold B at *; rw [Int.natAbs_neg]; exact g) h1 h2
  rw [Int.sub_neg] at this
  exact this
theorem B_div {a : Nat} {i j : Int} (h : B a i) : B a (i / j) := Nat.lt_of_le_of_lt (Int.natAbs_ediv_le_natAbs i j) h
theorem gc_pos {a b : Int} (h : 0 < b) : 0 < gc a b := by
  have : 0 < Nat.gcd a.natAbs b.natAbs := Nat.gcd_pos_of_pos_right _ (by omega)
  unfold gc
  omega
theorem gc_le {a b : Int} (h : 0 < b) : gc a b ≤ b := by
  have : Nat.gcd a.natAbs b.natAbs ≤ b.natAbs := Nat.le_of_dvd (by omega) (Nat.gcd_dvd_right _ _)
  unfold gc
  omega
theorem gc_B {n : Nat} {a b : Int} (h : 0 < b) (hb : B n b) : B n (gc a b) := by
  have h1 := gc_pos (a := a) h
  have h2 := gc_le (a := a) h
  unfold B at *
  omega
theorem divW {n : Nat} {i j : Int} (h : 0 < j) (hb : B n j) (h0 : 0 < n) (h9 : n ≤ 9000) : CDivW i j := wide_div h hb h0 h9
theorem r_part : ∀ ds st Q, sp_part ds st Q → b_part { nx := fun _ s' => Q (.d .none) s', rt := Q } (startD N_part ds) st := by
  intro ds st Q h
  unfold sp_part at h
  split at h
  · rename_i t b
    obtain ⟨h0, ht, hb, q⟩ := h
    walk_at "st"
    unfold b_part b_part_1 b_part_2
    walk_at "gk"
    rw [if_pos h0]
    have g := gc_pos (a := t) h0
    have gb := gc_B (a := t) h0 hb
    exact ⟨divW g gb (by decide) (by decide), divW g gb (by decide) (by decide), big_ok (by decide), q⟩
  · exact h.elim
theorem r_place : ∀ ds st Q, sp_place ds st Q → b_place { nx := fun _ s' => Q (.d .none) s', rt := Q } (startD N_place ds) st := by
  intro ds st Q h
  unfold sp_place at h
  split at h
  · rename_i x y w
    obtain ⟨h0, hx, hy, hw, q⟩ := h
    walk_at "st"
    unfold b_place b_place_1 b_place_2
    walk_at "gk"
    rw [if_pos h0]
    have g := gc_pos (a := gc x y) h0
    have gb := gc_B (a := gc x y) h0 hw
    have d : ∀ i, CDivW i (gc (gc x y) w) := fun i => divW g gb (by decide) (by decide)
    exact ⟨d _, d _, d _, big_ok (by decide), q⟩
  · exact h.elim
theorem B_big {i : Int} (h : B 400 i) : i.natAbs < big9 := by
  unfold big9
  exact B_mono h (by decide)
theorem fr_eqv {a b c d : Int} : PyData.eqv (fr a b) (fr c d) = (decide (a = c) && decide (b = d)) := by
  rw [Bool.eq_iff_iff]
  simp [fr, PyData.eqv, PyData.eqvAll]
theorem fr_sh {a b : Int} : SeqAt.shaped (fr a b) = true := by
  simp [fr, SeqAt.shaped, PyData.canLay0, PyData.canLayAll0, PyData.depth, PyData.depthAll]
theorem pt_sh {p : Pt} : SeqAt.shaped p.py = true := by
  simp [Pt.py, fr, SeqAt.shaped, PyData.canLay0, PyData.canLayAll0, PyData.depth, PyData.depthAll]
theorem pt_eqv {p q : Pt} : PyData.eqv p.py q.py = decide (p = q) := by
  rw [Bool.eq_iff_iff]
  obtain ⟨a, b, c, d⟩ := p
  obtain ⟨a', b', c', d'⟩ := q
  simp [Pt.py, fr, PyData.eqv, PyData.eqvAll, and_assoc]
theorem r_told : ∀ ds st Q, sp_told ds st Q → b_told { nx := fun _ s' => Q (.d .none) s', rt := Q } (startD N_told ds) st := by
  intro ds st Q h
  unfold sp_told at h
  split at h
  · rename_i x y w
    obtain ⟨⟨h0, hx, hy, hw⟩, q⟩ := h
    walk_at "st"
    unfold b_told
    walk_at "gk"
    have m : ∀ {i}, B 400 i → B 2000 i := fun h => B_mono h (by decide)
    exact ⟨h0, m hx, m hw, h0, m hy, m hw, big_ok (by decide), q⟩
  · exact h.elim
theorem r_own : ∀ ds st Q, sp_own ds st Q → b_own { nx := fun _ s' => Q (.d .none) s', rt := Q } (startD N_own ds) st := by
  intro ds st Q h
  unfold sp_own at h
  split at h
  · rename_i a b c d
    obtain ⟨h0, h1, ba, bb, bc, bd, q⟩ := h
    walk_at "st"
    unfold b_own b_own_1 b_own_2
    walk_at "gk"
    have m : ∀ {i j}, B 400 i → B 400 j → CMulW i j := fun h g => mulW h g (by decide) (by decide) (by decide)
    have n : ∀ {i j}, B 400 i → B 400 j → B 2000 (i * j) := fun h g => B_mul h g (by decide)
    exact ⟨m ba bd, m bc bb, m bb bd, Int.mul_pos h0 h1, n ba bd, n bc bb, n bb bd, q⟩
  · exact h.elim
theorem r_side : ∀ ds st Q, sp_side ds st Q → b_side { nx := fun _ s' => Q (.d .none) s', rt := Q } (startD N_side ds) st := by
  intro ds st Q h
  unfold sp_side at h
  split at h
  · rename_i x y w x' y' w' x'' y'' w''
    obtain ⟨⟨h1, h2, h3⟩, ⟨h4, h5, h6⟩, ⟨h7, h8, h9⟩, q⟩ := h
    walk_at "st"
    unfold b_side b_side_1 b_side_2
    walk_at "gk"
    have m : ∀ {i j}, B 1000 i → B 1000 j → CMulW i j := fun h g => mulW h g (by decide) (by decide) (by decide)
    have n : ∀ {i j}, B 1000 i → B 1000 j → B 2000 (i * j) := fun h g => B_mul h g (by decide)
    have m3 : ∀ {i j k l u}, B 1000 u → B 1000 i → B 1000 j → B 1000 k → B 1000 l → CMulW u (i * j - k * l) := fun g1 g2 g3 g4 g5 => mulW g1 (B_sub (n := 2001) (n g2 g3) (n g4 g5) (by decide) (by decide)) (by decide) (by decide) (by decide)
    exact ⟨m h5 h9, m h8 h6, m3 h1 h5 h9 h8 h6, m h4 h9, m h7 h6, m3 h2 h4 h9 h7 h6, m h4 h8, m h7 h5, m3 h3 h4 h8 h7 h5, q⟩
  · exact h.elim
theorem r_l_is_less : ∀ ds st Q, sp_l_is_less ds st Q → b_l_is_less { nx := fun _ s' => Q (.d .none) s', rt := Q } (startD N_l_is_less ds) st := by
  intro ds st Q h
  unfold sp_l_is_less at h
  split at h
  · rename_i x y w x' y' w'
    obtain ⟨⟨h1, h2, h3⟩, ⟨h4, h5, h6⟩, q⟩ := h
    walk_at "st"
    unfold b_l_is_less b_l_is_less_1 b_l_is_less_2
    walk_at "gk"
    have m : ∀ {i j}, B 1000 i → B 1000 j → CMulW i j := fun h g => mulW h g (by decide) (by decide) (by decide)
    unfold lessT at q
    refine ⟨m h1 h6, m h4 h3, ?_⟩
    by_cases e : x * w' = x' * w
    · simpa [e, m h2 h6, m h5 h3] using q
    · simpa [e, m h1 h6, m h4 h3] using q
  · exact h.elim
theorem r_l_sign : ∀ ds st Q, sp_l_sign ds st Q → b_l_sign { nx := fun _ s' => Q (.d .none) s', rt := Q } (startD N_l_sign ds) st := by
  intro ds st Q h
  unfold sp_l_sign at h
  split at h
  · rename_i n
    walk_at "st"
    unfold b_l_sign
    walk_at "gk"
    unfold sgn at h
    by_cases h1 : 0 < n
    · rw [if_pos h1]
      rw [if_neg (by omega), if_pos h1] at h
      exact h
    · rw [if_neg h1]
      by_cases h2 : n = 0
      · rw [if_pos h2] at h ⊢
        exact h
      · rw [if_neg h2] at h ⊢
        rw [if_neg h1] at h
        exact h
  · exact h.elim
theorem r_sign : ∀ ds st Q, sp_sign ds st Q → b_sign { nx := fun _ s' => Q (.d .none) s', rt := Q } (startD N_sign ds) st := by
  intro ds st Q h
  unfold sp_sign sp_l_sign at h
  split at h
  · rename_i n
    walk_at "st"
    unfold b_sign b_sign_1 b_sign_2
    walk_at "gk"
    unfold sgn at h
    by_cases h2 : n = 0
    · rw [if_pos h2] at h ⊢
      exact h
    · rw [if_neg h2] at h ⊢
      by_cases h1 : 0 < n
      · rw [if_pos h1] at h ⊢
        exact h
      · rw [if_neg h1] at h ⊢
        exact h
  · exact h.elim
theorem lcm_B {a b : Int} (ha : B 400 a) (hb : B 400 b) : B 800 ((Nat.lcm a.natAbs b.natAbs : Nat) : Int) := by
  have h1 : Nat.lcm a.natAbs b.natAbs ≤ a.natAbs * b.natAbs := PySem.W.mc_lcm_le _ _
  have h2 : B 800 (a * b) := B_mul ha hb (by decide)
  unfold B at *
  rw [Int.natAbs_mul] at h2
  rw [Int.natAbs_natCast]
  exact Nat.lt_of_le_of_lt h1 h2
theorem r_scaled : ∀ ds st Q, sp_scaled ds st Q → b_scaled { nx := fun _ s' => Q (.d .none) s', rt := Q } (startD N_scaled ds) st := by
  intro ds st Q h
  unfold sp_scaled at h
  split at h
  · rename_i a b c d
    obtain ⟨h0, h1, ba, bb, bc, bd, q⟩ := h
    walk_at "st"
    unfold b_scaled b_scaled_1 b_scaled_2 b_scaled_3
    walk_at "gk"
    have l := lcm_B bb bd
    exact ⟨⟨B_big bb, B_big bd⟩, divW h0 bb (by decide) (by decide), mulW ba (B_div l) (by decide) (by decide) (by decide), divW h1 bd (by decide) (by decide), mulW bc (B_div l) (by decide) (by decide) (by decide), big_ok (by decide), q⟩
  · exact h.elim
theorem r_crossed : ∀ ds st Q, sp_crossed ds st Q → b_crossed { nx := fun _ s' => Q (.d .none) s', rt := Q } (startD N_crossed ds) st := by
  intro ds st Q h
  unfold sp_crossed at h
  split at h
  · rename_i x y w x' y' w'
    obtain ⟨⟨h1, h2, h3⟩, ⟨h4, h5, h6⟩, q⟩ := h
    walk_at "st"
    unfold b_crossed
    walk_at "gk"
    have m : ∀ {i j}, B 2000 i → B 2000 j → CMulW i j := fun h g => mulW h g (by decide) (by decide) (by decide)
    exact ⟨m h2 h6, m h3 h5, m h3 h4, m h1 h6, m h1 h5, m h2 h4, big_ok (by decide), q⟩
  · exact h.elim
theorem r_along : ∀ ds st Q, sp_along ds st Q → b_along { nx := fun _ s' => Q (.d .none) s', rt := Q } (startD N_along ds) st := by
  intro ds st Q h
  unfold sp_along at h
  split at h
  · rename_i x y w x' y' w'
    obtain ⟨⟨h1, h2, h3⟩, ⟨h4, h5, h6⟩, q⟩ := h
    walk_at "st"
    unfold b_along
    walk_at "gk"
    have m : ∀ {i j}, B 5000 i → B 5000 j → CMulW i j := fun h g => mulW h g (by decide) (by decide) (by decide)
    exact ⟨m h1 h4, m h2 h5, m h3 h6, q⟩
  · exact h.elim
theorem r_is_less : ∀ ds st Q, sp_is_less ds st Q → b_is_less { nx := fun _ s' => Q (.d .none) s', rt := Q } (startD N_is_less ds) st := by
  intro ds st Q h
  unfold sp_is_less at h
  split at h
  · rename_i a b c d
    obtain ⟨⟨h1, h2, h3, h4⟩, q⟩ := h
    walk_at "st"
    unfold b_is_less
    walk_at "gk"
    have m : ∀ {i j}, B 400 i → B 400 j → CMulW i j := fun h g => mulW h g (by decide) (by decide) (by decide)
    exact ⟨m h1 h4, m h3 h2, q⟩
  · exact h.elim
theorem r_is_fraction : ∀ ds st Q, sp_is_fraction ds st Q → b_is_fraction { nx := fun _ s' => Q (.d .none) s', rt := Q } (startD N_is_fraction ds) st := by
  intro ds st Q h
  unfold sp_is_fraction at h
  split at h
  · rename_i x
    walk_at "st"
    unfold b_is_fraction b_is_fraction_1 b_is_fraction_2
    have nt : isRow 2 2 x = false → isFr x = false := fun h => by
      cases x with
      | tuple xs =>
        match xs, h with
        | [], _ => rfl
        | [u], _ => cases u <;> rfl
        | [u, v], h => cases h
        | u :: v :: _ :: _, _ => cases u <;> cases v <;> rfl
      | _ => rfl
    cases hr : isRow 2 2 x with
    | false =>
      rw [nt hr] at h
      walk_at "gk"
      rw [hr]
      exact h
    | true =>
      cases x with
      | tuple xs =>
        match xs, hr with
        | [u, v], hr =>
          walk_at "gk"
          rw [hr]
          cases u with
          | int a =>
            cases v with
            | int b =>
              simp only [isW]
              walk_at "gk"
              simp only [isFr] at h
              by_cases hb : 0 < b
              · rw [decide_eq_true hb, Bool.true_and] at h
                change Q (D.d (.bool (decide (((Nat.gcd a.natAbs b.natAbs : Nat) : Int) = 1)))) st at h
                simpa [hb] using h
              · rw [decide_eq_false hb, Bool.false_and] at h
                simpa [hb] using h
            | _ => simpa [isW, isFr] using h
          | _ => simpa [isW, isFr] using h
        | _ :: _ :: _ :: r, hr =>
          simp [isRow] at hr
          omega
      | _ => cases hr
  · exact h.elim
end K02
namespace K02
open PySem PySem.Spec PyProof.Rows L2 DL
theorem r_l_is_whole : ∀ ds st Q, sp_l_is_whole ds st Q → b_l_is_whole { nx := fun _ s' => Q (.d .none) s', rt := Q } (startD N_l_is_whole ds) st := r_is_whole
theorem r_is_lot : ∀ ds st Q, sp_is_lot ds st Q → b_is_lot { nx := fun _ s' => Q (.d .none) s', rt := Q } (startD N_is_lot ds) st := r_is_row
theorem row2 {x : PyData} (h : isRow 2 2 x = true) : ∃ u v, x = .tuple [u, v] := by
  cases x with
  | tuple xs =>
    match xs, h with
    | [], h => cases h
    | [u], h => cases h
    | [u, v], h => exact ⟨u, v, rfl⟩
    | u :: v :: w :: r, h =>
      simp [isRow] at h
      omega
  | _ => cases h
theorem row2_fr {x : PyData} (h : isRow 2 2 x = false) : isFr x = false := by
  cases x with
  | tuple xs =>
    match xs, h with
    | [], _ => rfl
    | [u], _ => cases u <;> rfl
    | [u, v], h => cases h
    | u :: v :: _ :: _, _ => cases u <;> cases v <;> rfl
  | _ => rfl
theorem row2_pl {x : PyData} (h : isRow 2 2 x = false) : isPl x = false := by
  cases x with
  | tuple xs =>
    match xs, h with
    | [], _ => rfl
    | [u], _ => rfl
    | [u, v], h => cases h
    | u :: v :: _ :: _, _ => rfl
  | _ => rfl
def unB (f : PyData → Bool) : D → PyData
  | .d x => .bool (f x)
  | _ => .none
theorem all_two {f : PyData → Bool} {u v : PyData} : ([u, v].map D.d).map (unB f) = [f u, f v].map PyData.bool := rfl
theorem r_l_is_fraction : ∀ ds st Q, sp_l_is_fraction ds st Q → b_l_is_fraction { nx := fun _ s' => Q (.d .none) s', rt := Q } (startD N_l_is_fraction ds) st := by
  intro ds st Q h
  unfold sp_l_is_fraction sp_is_fraction at h
  split at h
  · rename_i x
    walk_at "st"
    unfold b_l_is_fraction b_l_is_fraction_1 b_l_is_fraction_2
    cases hr : isRow 2 2 x with
    | false =>
      rw [row2_fr hr] at h
      walk_at "gk"
      rw [hr]
      exact h
    | true =>
      obtain ⟨u, v, rfl⟩ := row2 hr
      walk_at "gk"
      rw [hr]
      simp only [if_true, Bool.not_true, Bool.false_eq_true, if_false]
      refine lcV_pure [.d u, .d v] (unB isW) (fun R hR => ⟨_, rfl, hR⟩) (by show 2 < sizeLine; decide) ?_ ⟨[isW u, isW v], rfl, ?_⟩
      · intro d hd K k
        rcases List.mem_cons.mp hd with rfl | hd
        · exact ⟨_, rfl, k⟩
        · rcases List.mem_cons.mp hd with rfl | hd
          · exact ⟨_, rfl, k⟩
          · cases hd
      · show if (!([isW u, isW v].all _root_.id)) = true then _ else _
        cases u with
        | int a =>
          cases v with
          | int b =>
            rw [if_neg (by simp [isW])]
            dsimp only
            simp only [isFr] at h
            by_cases hb : 0 < b
            · rw [decide_eq_true hb, Bool.true_and] at h
              simpa [hb] using h
            · rw [decide_eq_false hb, Bool.false_and] at h
              simpa [hb] using h
          | _ => simpa [isW, isFr] using h
        | _ => simpa [isW, isFr] using h
  · exact h.elim
theorem r_is_place : ∀ ds st Q, sp_is_place ds st Q → b_is_place { nx := fun _ s' => Q (.d .none) s', rt := Q } (startD N_is_place ds) st := by
  intro ds st Q h
  unfold sp_is_place at h
  split at h
  · rename_i x
    walk_at "st"
    unfold b_is_place
    cases hr : isRow 2 2 x with
    | false =>
      rw [row2_pl hr] at h
      walk_at "gk"
      rw [hr]
      exact h
    | true =>
      obtain ⟨u, v, rfl⟩ := row2 hr
      walk_at "gk"
      rw [hr]
      simp only [isPl] at h
      cases hu : isFr u <;> simpa [hu] using h
  · exact h.elim
theorem r_is_told : ∀ ds st Q, sp_is_told ds st Q → b_is_told { nx := fun _ s' => Q (.d .none) s', rt := Q } (startD N_is_told ds) st := by
  intro ds st Q h
  unfold sp_is_told sp_is_place at h
  split at h
  · rename_i x
    walk_at "st"
    unfold b_is_told
    cases hr : isRow 2 2 x with
    | false =>
      rw [row2_pl hr] at h
      walk_at "gk"
      rw [hr]
      exact h
    | true =>
      obtain ⟨u, v, rfl⟩ := row2 hr
      walk_at "gk"
      rw [hr]
      simp only [isPl] at h
      simp only [if_true, Bool.not_true, Bool.false_eq_true, if_false]
      refine lcV_pure [.d u, .d v] (unB isFr) (fun R hR => ⟨_, rfl, hR⟩) (by show 2 < sizeLine; decide) ?_ ⟨[isFr u, isFr v], rfl, ?_⟩
      · intro d hd K k
        rcases List.mem_cons.mp hd with rfl | hd
        · exact ⟨_, rfl, k⟩
        · rcases List.mem_cons.mp hd with rfl | hd
          · exact ⟨_, rfl, k⟩
          · cases hd
      · simpa using h
  · exact h.elim
theorem r_is_point : ∀ ds st Q, sp_is_point ds st Q → b_is_point { nx := fun _ s' => Q (.d .none) s', rt := Q } (startD N_is_point ds) st := by
  intro ds st Q h
  unfold sp_is_point sp_is_place at h
  split at h
  · rename_i x
    walk_at "st"
    unfold b_is_point
    walk_at "gk"
    exact h
  · exact h.elim
theorem Pt.Ok.pl {p : Pt} (h : p.Ok) : isPl p.py = true := by
  show (decide (0 < p.b) && decide (gc p.a p.b = 1) && (decide (0 < p.d) && decide (gc p.c p.d = 1))) = true
  rw [decide_eq_true h.hb, decide_eq_true h.hd, decide_eq_true h.g1, decide_eq_true h.g2]
  rfl
theorem r_is_stretch : ∀ ds st Q, sp_is_stretch ds st Q → b_is_stretch { nx := fun _ s' => Q (.d .none) s', rt := Q } (startD N_is_stretch ds) st := by
  rintro ds st Q ⟨p, q, rfl, hp, hq, ne, h⟩
  walk_at "st"
  unfold b_is_stretch
  walk_at "gk"
  have e : isRow 2 2 (.tuple [p.py, q.py]) = true := rfl
  rw [e]
  simp only [if_true, hp.pl, hq.pl]
  show SeqAt.shaped p.py = true ∧ SeqAt.shaped q.py = true ∧ _
  refine ⟨pt_sh, pt_sh, ?_⟩
  rw [pt_eqv, decide_eq_false ne]
  exact h
theorem r_check_point : ∀ ds st Q, sp_check_point ds st Q → b_check_point { nx := fun _ s' => Q (.d .none) s', rt := Q } (startD N_check_point ds) st := by
  rintro ds st Q ⟨p, rfl, hp, h⟩
  walk_at "st"
  unfold b_check_point
  walk_at "gk"
  rw [hp.pl]
  exact h
theorem r_check_segment : ∀ ds st Q, sp_check_segment ds st Q → b_check_segment { nx := fun _ s' => Q (.d .none) s', rt := Q } (startD N_check_segment ds) st := by
  rintro ds st Q ⟨p, q, rfl, hp, hq, ne, h⟩
  walk_at "st"
  unfold b_check_segment
  walk_at "gk"
  exact ⟨p, q, rfl, hp, hq, ne, h⟩
end K02
namespace K02
open PySem PySem.Spec PyProof.Rows L2 DL
theorem scT_B {p : Pt} (h : p.Ok) : B 1200 (scT p).x ∧ B 1200 (scT p).y ∧ B 800 (scT p).w := by
  have l := lcm_B h.bb h.bd
  exact ⟨B_mul h.ba (B_div l) (by decide), B_mul h.bc (B_div l) (by decide), l⟩
theorem crT_B {p q : Tr} (h : B 1200 p.x ∧ B 1200 p.y ∧ B 800 p.w) (g : B 1200 q.x ∧ B 1200 q.y ∧ B 800 q.w) : B 2500 (crT p q).x ∧ B 2500 (crT p q).y ∧ B 2500 (crT p q).w := by
  obtain ⟨h1, h2, h3⟩ := h
  obtain ⟨g1, g2, g3⟩ := g
  have m : ∀ {i j}, B 1200 i → B 1200 j → B 2400 (i * j) := fun h g => B_mul h g (by decide)
  have h3 := B_mono h3 (n := 1200) (by decide)
  have g3 := B_mono g3 (n := 1200) (by decide)
  exact ⟨B_sub (m h2 g3) (m h3 g2) (by decide) (by decide), B_sub (m h3 g1) (m h1 g3) (by decide) (by decide), B_sub (m h1 g2) (m h2 g1) (by decide) (by decide)⟩
theorem r_side_of : ∀ ds st Q, sp_side_of ds st Q → b_side_of { nx := fun _ s' => Q (.d .none) s', rt := Q } (startD N_side_of ds) st := by
  rintro ds st Q ⟨p, q, r, rfl, hp, hq, hr, h⟩
  walk_at "st"
  unfold b_side_of
  have bp := scT_B hp
  have bq := scT_B hq
  have br := scT_B hr
  have bc := crT_B bp bq
  have m : ∀ {i}, B 1200 i → B 2000 i := fun h => B_mono h (by decide)
  have m8 : ∀ {i}, B 800 i → B 2000 i := fun h => B_mono h (by decide)
  have n : ∀ {i}, B 1200 i → B 5000 i := fun h => B_mono h (by decide)
  have n8 : ∀ {i}, B 800 i → B 5000 i := fun h => B_mono h (by decide)
  have n5 : ∀ {i}, B 2500 i → B 5000 i := fun h => B_mono h (by decide)
  refine ⟨_, rfl, hp.hb, hp.hd, hp.ba, hp.bb, hp.bc, hp.bd, ?_⟩
  refine ⟨_, rfl, hq.hb, hq.hd, hq.ba, hq.bb, hq.bc, hq.bd, ?_⟩
  refine ⟨⟨m bp.1, m bp.2.1, m8 bp.2.2⟩, ⟨m bq.1, m bq.2.1, m8 bq.2.2⟩, ?_⟩
  refine ⟨_, rfl, hr.hb, hr.hd, hr.ba, hr.bb, hr.bc, hr.bd, ?_⟩
  refine ⟨⟨n5 bc.1, n5 bc.2.1, n5 bc.2.2⟩, ⟨n br.1, n br.2.1, n8 br.2.2⟩, ?_⟩
  exact .inl h
theorem r_turn_of : ∀ ds st Q, sp_turn_of ds st Q → b_turn_of { nx := fun _ s' => Q (.d .none) s', rt := Q } (startD N_turn_of ds) st := by
  rintro ds st Q ⟨p, q, r, rfl, hp, hq, hr, h⟩
  walk_at "st"
  refine ⟨_, rfl, p, rfl, hp, _, rfl, q, rfl, hq, _, rfl, r, rfl, hr, ?_⟩
  exact ⟨_, rfl, _, rfl, _, rfl, p, q, r, rfl, hp, hq, hr, .inl h⟩
theorem r_is_ahead : ∀ ds st Q, sp_is_ahead ds st Q → b_is_ahead { nx := fun _ s' => Q (.d .none) s', rt := Q } (startD N_is_ahead ds) st := by
  rintro ds st Q ⟨p, q, rfl, hp, hq, h⟩
  walk_at "st"
  unfold b_is_ahead b_is_ahead_1 b_is_ahead_2
  simp only [Pt.py]
  walk_at "gk"
  show SeqAt.shaped (fr p.a p.b) = true ∧ SeqAt.shaped (fr q.a q.b) = true ∧ _
  refine ⟨fr_sh, fr_sh, ?_⟩
  rw [fr_eqv]
  unfold ahead at h
  by_cases e : p.a = q.a ∧ p.b = q.b
  · rw [if_pos e] at h
    rw [decide_eq_true e.1, decide_eq_true e.2]
    exact ⟨⟨hp.bc, hp.bd, hq.bc, hq.bd⟩, h⟩
  · rw [if_neg e] at h
    have e2 : (decide (p.a = q.a) && decide (p.b = q.b)) = false := by
      rw [Bool.eq_false_iff]
      simpa using e
    rw [e2]
    exact ⟨⟨hp.ba, hp.bb, hq.ba, hq.bb⟩, h⟩
theorem r_in_order : ∀ ds st Q, sp_in_order ds st Q → b_in_order { nx := fun _ s' => Q (.d .none) s', rt := Q } (startD N_in_order ds) st := by
  rintro ds st Q ⟨p, q, rfl, hp, hq, h⟩
  walk_at "st"
  unfold b_in_order b_in_order_1 b_in_order_2
  walk_at "gk"
  refine ⟨q, p, rfl, hq, hp, ?_⟩
  cases e : ahead q p with
  | true =>
    rw [e] at h
    exact ⟨big_ok (by decide), h⟩
  | false =>
    rw [e] at h
    exact ⟨big_ok (by decide), h⟩
theorem r_lies_on : ∀ ds st Q, sp_lies_on ds st Q → b_lies_on { nx := fun _ s' => Q (.d .none) s', rt := Q } (startD N_lies_on ds) st := by
  rintro ds st Q ⟨p, q, r, rfl, hp, hq, hr, h⟩
  walk_at "st"
  unfold b_lies_on b_lies_on_1 b_lies_on_2 b_lies_on_3
  walk_at "gk"
  refine ⟨p, q, r, rfl, hp, hq, hr, ?_⟩
  unfold onP at h
  by_cases e : sideP p q r = 0
  · rw [if_neg (by simpa using e)] at h
    show if (!decide (sideP p q r = 0)) = true then _ else _
    rw [decide_eq_true e, if_neg (by decide)]
    refine ⟨p, q, rfl, hp, hq, ?_⟩
    cases a : ahead q p with
    | true =>
      rw [a, if_pos rfl] at h
      refine .inl ⟨rfl, ?_⟩
      walk_at "gk"
      refine ⟨r, q, rfl, hr, hq, ?_⟩
      cases a1 : ahead r q with
      | true =>
        rw [a1] at h
        exact h
      | false =>
        rw [a1] at h
        refine ⟨p, r, rfl, hp, hr, ?_⟩
        exact h
    | false =>
      rw [a, if_neg (by decide)] at h
      refine .inl ⟨rfl, ?_⟩
      walk_at "gk"
      refine ⟨r, p, rfl, hr, hp, ?_⟩
      cases a1 : ahead r p with
      | true =>
        rw [a1] at h
        exact h
      | false =>
        rw [a1] at h
        refine ⟨q, r, rfl, hq, hr, ?_⟩
        exact h
  · rw [if_pos e] at h
    show if (!decide (sideP p q r = 0)) = true then _ else _
    rw [decide_eq_false e, if_pos (by decide)]
    exact h
theorem r_is_on : ∀ ds st Q, sp_is_on ds st Q → b_is_on { nx := fun _ s' => Q (.d .none) s', rt := Q } (startD N_is_on ds) st := by
  rintro ds st Q ⟨p, q, r, rfl, hp, hq, hr, ne, h⟩
  walk_at "st"
  refine ⟨_, rfl, p, q, rfl, hp, hq, ne, _, rfl, r, rfl, hr, ?_⟩
  exact ⟨_, rfl, _, rfl, p, q, r, rfl, hp, hq, hr, .inl h⟩
theorem r_l_lies_on : ∀ ds st Q, sp_l_lies_on ds st Q → b_l_lies_on { nx := fun _ s' => Q (.d .none) s', rt := Q } (startD N_l_lies_on ds) st := by
  intro ds st Q h
  unfold sp_l_lies_on at h
  split at h
  · rename_i x y w x' y' w' x'' y'' w''
    obtain ⟨h1, h2, h3, h⟩ := h
    walk_at "st"
    unfold b_l_lies_on b_l_lies_on_1 b_l_lies_on_2 b_l_lies_on_3
    walk_at "gk"
    refine ⟨h1, h2, h3, ?_⟩
    unfold onT at h
    by_cases e : det ⟨x, y, w⟩ ⟨x', y', w'⟩ ⟨x'', y'', w''⟩ = 0
    · rw [if_neg (by simpa using e)] at h
      show if (!decide (det ⟨x, y, w⟩ ⟨x', y', w'⟩ ⟨x'', y'', w''⟩ = 0)) = true then _ else _
      rw [decide_eq_true e, if_neg (by decide)]
      refine ⟨h1, h2, ?_⟩
      cases a : lessT ⟨x, y, w⟩ ⟨x', y', w'⟩ with
      | true =>
        rw [a, if_pos rfl] at h
        walk_at "gk"
        refine ⟨big_ok (by decide), h3, h1, ?_⟩
        cases a1 : lessT ⟨x'', y'', w''⟩ ⟨x, y, w⟩ with
        | true =>
          rw [a1] at h
          exact h
        | false =>
          rw [a1] at h
          exact ⟨h2, h3, h⟩
      | false =>
        rw [a, if_neg (by decide)] at h
        walk_at "gk"
        refine ⟨big_ok (by decide), h3, h2, ?_⟩
        cases a1 : lessT ⟨x'', y'', w''⟩ ⟨x', y', w'⟩ with
        | true =>
          rw [a1] at h
          exact h
        | false =>
          rw [a1] at h
          exact ⟨h1, h3, h⟩
    · rw [if_pos e] at h
      show if (!decide (det ⟨x, y, w⟩ ⟨x', y', w'⟩ ⟨x'', y'', w''⟩ = 0)) = true then _ else _
      rw [decide_eq_false e, if_pos (by decide)]
      exact h
  · exact h.elim
end K02
namespace K02
open PySem PySem.Spec PyProof.Rows L2 DL
/-- a place is told by a point -/
structure Rel (p : Pt) (t : Tr) : Prop where
  hx : t.x * p.b = p.a * t.w
  hy : t.y * p.d = p.c * t.w
  hw : 0 < t.w
  hb : 0 < p.b
  hd : 0 < p.d
theorem sgn_neg (n : Int) : sgn (-n) = 0 - sgn n := by
  unfold sgn
  split <;> split <;> first | omega | (split <;> split <;> omega) | (split <;> omega)
theorem sgn_scale {k l m n : Int} (hk : 0 < k) (hl : 0 < l) (h : k * m = l * n) : sgn m = sgn n := by
  rcases Int.lt_trichotomy m 0 with hm | hm | hm
  · have : l * n < 0 := by
      rw [← h]
      exact Int.mul_neg_of_pos_of_neg hk hm
    have hn : n < 0 := by
      rcases Int.lt_or_le n 0 with h1 | h1
      · exact h1
      · have := Int.mul_nonneg (Int.le_of_lt hl) h1
        omega
    unfold sgn
    rw [if_neg (by omega), if_neg (by omega), if_neg (by omega), if_neg (by omega)]
  · subst hm
    rw [Int.mul_zero] at h
    rcases Int.mul_eq_zero.mp h.symm with h1 | h1
    · omega
    · rw [h1]
  · have : 0 < l * n := by
      rw [← h]
      exact Int.mul_pos hk hm
    have hn : 0 < n := by
      rcases Int.lt_or_le 0 n with h1 | h1
      · exact h1
      · have := Int.mul_nonpos_of_nonneg_of_nonpos (Int.le_of_lt hl) h1
        omega
    unfold sgn
    rw [if_neg (by omega), if_pos hm, if_neg (by omega), if_pos hn]
theorem sgn_lt {m : Int} : sgn m = -1 ↔ m < 0 := by
  unfold sgn
  split
  · omega
  · split <;> omega
theorem sgn_zero {m : Int} : sgn m = 0 ↔ m = 0 := by
  unfold sgn
  split
  · omega
  · split <;> omega
theorem rel_same {p : Pt} {t u : Tr} (h : Rel p t) (g : Rel p u) : u.w * t.x = t.w * u.x ∧ u.w * t.y = t.w * u.y := by
  obtain ⟨h1, h2, h3, h4, h5⟩ := h
  obtain ⟨g1, g2, g3, g4, g5⟩ := g
  constructor
  · have : p.b * (u.w * t.x) = p.b * (t.w * u.x) := by grind
    exact Int.eq_of_mul_eq_mul_left (by omega) this
  · have : p.d * (u.w * t.y) = p.d * (t.w * u.y) := by grind
    exact Int.eq_of_mul_eq_mul_left (by omega) this
theorem al_det {p q r : Tr} : alT (crT p q) r = det p q r := by
  unfold alT crT det
  grind
theorem det_rot {p q r : Tr} : det q r p = det p q r := by
  unfold det
  grind
theorem det_swap {p q r : Tr} : det q p r = - det p q r := by
  unfold det
  grind
theorem det_eq1 {p r : Tr} : det p p r = 0 := by
  unfold det
  grind
theorem det_s1 {t u q r : Tr} (h : u.w * t.x = t.w * u.x ∧ u.w * t.y = t.w * u.y) : u.w * det t q r = t.w * det u q r := by
  obtain ⟨h1, h2⟩ := h
  unfold det
  grind
theorem sgn_det1 {p : Pt} {t u q r : Tr} (h : Rel p t) (g : Rel p u) : sgn (det t q r) = sgn (det u q r) := sgn_scale g.hw h.hw (det_s1 (rel_same h g))
theorem sgn_det {p q r : Pt} {t u t1 u1 t2 u2 : Tr} (h : Rel p t) (g : Rel p u) (h1 : Rel q t1) (g1 : Rel q u1) (h2 : Rel r t2) (g2 : Rel r u2) : sgn (det t t1 t2) = sgn (det u u1 u2) := by
  rw [sgn_det1 h g, ← det_rot, sgn_det1 h1 g1, ← det_rot, sgn_det1 h2 g2, ← det_rot]
/-! who is ahead -/
theorem cmp_x {p q : Pt} {t u : Tr} (h : Rel p t) (g : Rel q u) : sgn (t.x * u.w - u.x * t.w) = sgn (p.a * q.b - q.a * p.b) := by
  obtain ⟨h1, h2, h3, h4, h5⟩ := h
  obtain ⟨g1, g2, g3, g4, g5⟩ := g
  refine sgn_scale (k := p.b * q.b) (l := t.w * u.w) (Int.mul_pos h4 g4) (Int.mul_pos h3 g3) ?_
  grind
theorem cmp_y {p q : Pt} {t u : Tr} (h : Rel p t) (g : Rel q u) : sgn (t.y * u.w - u.y * t.w) = sgn (p.c * q.d - q.c * p.d) := by
  obtain ⟨h1, h2, h3, h4, h5⟩ := h
  obtain ⟨g1, g2, g3, g4, g5⟩ := g
  refine sgn_scale (k := p.d * q.d) (l := t.w * u.w) (Int.mul_pos h5 g5) (Int.mul_pos h3 g3) ?_
  grind
theorem low {a b c d : Int} (hb : 0 < b) (hd : 0 < d) (h : gc a b = 1) (g : gc c d = 1) (e : a * d = c * b) : a = c ∧ b = d := by
  have h1 : Nat.Coprime a.natAbs b.natAbs := by
    unfold gc at h
    show Nat.gcd _ _ = 1
    omega
  have g1 : Nat.Coprime c.natAbs d.natAbs := by
    unfold gc at g
    show Nat.gcd _ _ = 1
    omega
  have e1 : a.natAbs * d.natAbs = c.natAbs * b.natAbs := by
    rw [← Int.natAbs_mul, ← Int.natAbs_mul, e]
  have d1 : b.natAbs ∣ d.natAbs := h1.symm.dvd_of_dvd_mul_left (by rw [e1]; exact Nat.dvd_mul_left _ _)
  have d2 : d.natAbs ∣ b.natAbs := g1.symm.dvd_of_dvd_mul_left (by rw [← e1]; exact Nat.dvd_mul_left _ _)
  have e2 := Nat.dvd_antisymm d1 d2
  have e3 : b = d := by omega
  subst e3
  exact ⟨Int.eq_of_mul_eq_mul_right (by omega) e, rfl⟩
theorem ahead_less {p q : Pt} {t u : Tr} (h : Rel p t) (g : Rel q u) (hp : p.Ok) (hq : q.Ok) : ahead p q = lessT t u := by
  have cx := cmp_x h g
  have cy := cmp_y h g
  unfold ahead lessT
  by_cases e : p.a * q.b - q.a * p.b = 0
  · have e1 := low hp.hb hq.hb hp.g1 hq.g1 (show p.a * q.b = q.a * p.b by omega)
    have e2 : t.x * u.w - u.x * t.w = 0 := by
      rw [← sgn_zero, cx, sgn_zero, e]
    rw [if_pos e1, if_neg (by omega), Bool.eq_iff_iff, decide_eq_true_iff, decide_eq_true_iff]
    have := @sgn_lt (t.y * u.w - u.y * t.w)
    have := @sgn_lt (p.c * q.d - q.c * p.d)
    rw [cy] at *
    omega
  · have e2 : ¬ t.x * u.w - u.x * t.w = 0 := by
      rw [← sgn_zero, cx, sgn_zero]
      exact e
    rw [if_neg (fun z => e (by rw [z.1, z.2]; omega)), if_pos (by omega), Bool.eq_iff_iff, decide_eq_true_iff, decide_eq_true_iff]
    have := @sgn_lt (t.x * u.w - u.x * t.w)
    have := @sgn_lt (p.a * q.b - q.a * p.b)
    rw [cx] at *
    omega
theorem ahead_irr {p : Pt} : ahead p p = false := by
  unfold ahead
  rw [if_pos ⟨rfl, rfl⟩, decide_eq_false (by omega)]
theorem ahead_tri {p q : Pt} (hp : p.Ok) (hq : q.Ok) (ne : p ≠ q) : ahead q p = !ahead p q := by
  unfold ahead
  by_cases e : p.a = q.a ∧ p.b = q.b
  · rw [if_pos e, if_pos ⟨e.1.symm, e.2.symm⟩]
    have : ¬ p.c * q.d = q.c * p.d := fun z => by
      have := low hp.hd hq.hd hp.g2 hq.g2 z
      apply ne
      obtain ⟨a, b, c, d⟩ := p
      obtain ⟨a', b', c', d'⟩ := q
      simp only [] at *
      rw [e.1, e.2, this.1, this.2]
    by_cases l : p.c * q.d < q.c * p.d
    · rw [decide_eq_true l, decide_eq_false (by omega)]
      rfl
    · rw [decide_eq_false l, decide_eq_true (by omega)]
      rfl
  · rw [if_neg e, if_neg (fun z => e ⟨z.1.symm, z.2.symm⟩)]
    have : ¬ p.a * q.b = q.a * p.b := fun z => e (low hp.hb hq.hb hp.g1 hq.g1 z)
    by_cases l : p.a * q.b < q.a * p.b
    · rw [decide_eq_true l, decide_eq_false (by omega)]
      rfl
    · rw [decide_eq_false l, decide_eq_true (by omega)]
      rfl
end K02
namespace K02
open PySem PySem.Spec PyProof.Rows L2 DL
theorem cancel {g a : Int} (h : g ∣ a) : g * (a / g) = a := Int.mul_ediv_cancel' h
theorem gc_dl (a b : Int) : gc a b ∣ a := by
  unfold gc
  exact Int.ofNat_dvd_left.mpr (Nat.gcd_dvd_left _ _)
theorem gc_dr (a b : Int) : gc a b ∣ b := by
  unfold gc
  exact Int.ofNat_dvd_left.mpr (Nat.gcd_dvd_right _ _)
theorem gc_nn (a b : Int) : 0 ≤ gc a b := by
  unfold gc
  omega
theorem div_pos {g b : Int} (hb : 0 < b) (hg : 0 < g) (h : g ∣ b) : 0 < b / g := Int.ediv_pos_of_pos_of_dvd hb (Int.le_of_lt hg) h
theorem place_x {x y w : Int} (hw : 0 < w) : gc (gc x y) w * (placeT x y w).x = x ∧ gc (gc x y) w * (placeT x y w).y = y ∧ gc (gc x y) w * (placeT x y w).w = w ∧ 0 < gc (gc x y) w ∧ 0 < (placeT x y w).w := by
  have d1 : gc (gc x y) w ∣ x := Int.dvd_trans (gc_dl _ _) (gc_dl _ _)
  have d2 : gc (gc x y) w ∣ y := Int.dvd_trans (gc_dl _ _) (gc_dr _ _)
  have d3 : gc (gc x y) w ∣ w := gc_dr _ _
  have g : 0 < gc (gc x y) w := gc_pos hw
  exact ⟨cancel d1, cancel d2, cancel d3, g, div_pos hw g d3⟩
theorem rel_own {p : Pt} (hb : 0 < p.b) (hd : 0 < p.d) : Rel p (ownT p) := by
  obtain ⟨h1, h2, h3, h4, h5⟩ := place_x (x := p.a * p.d) (y := p.c * p.b) (w := p.b * p.d) (Int.mul_pos hb hd)
  change gc (gc (p.a * p.d) (p.c * p.b)) (p.b * p.d) * (ownT p).x = _ at h1
  change gc (gc (p.a * p.d) (p.c * p.b)) (p.b * p.d) * (ownT p).y = _ at h2
  change gc (gc (p.a * p.d) (p.c * p.b)) (p.b * p.d) * (ownT p).w = _ at h3
  change 0 < (ownT p).w at h5
  generalize gc (gc (p.a * p.d) (p.c * p.b)) (p.b * p.d) = g at *
  refine ⟨?_, ?_, h5, hb, hd⟩
  · refine Int.eq_of_mul_eq_mul_left (a := g) (by omega) ?_
    grind
  · refine Int.eq_of_mul_eq_mul_left (a := g) (by omega) ?_
    grind
theorem rel_sc {p : Pt} (hb : 0 < p.b) (hd : 0 < p.d) : Rel p (scT p) := by
  have d1 : p.b ∣ ((Nat.lcm p.b.natAbs p.d.natAbs : Nat) : Int) := Int.ofNat_dvd_right.mpr (Nat.dvd_lcm_left _ _)
  have d2 : p.d ∣ ((Nat.lcm p.b.natAbs p.d.natAbs : Nat) : Int) := Int.ofNat_dvd_right.mpr (Nat.dvd_lcm_right _ _)
  have e1 := cancel d1
  have e2 := cancel d2
  have l : 0 < ((Nat.lcm p.b.natAbs p.d.natAbs : Nat) : Int) := by
    have : 0 < Nat.lcm p.b.natAbs p.d.natAbs := Nat.lcm_pos (by omega) (by omega)
    omega
  refine ⟨?_, ?_, l, hb, hd⟩
  · show p.a * (((Nat.lcm p.b.natAbs p.d.natAbs : Nat) : Int) / p.b) * p.b = p.a * ((Nat.lcm p.b.natAbs p.d.natAbs : Nat) : Int)
    grind
  · show p.c * (((Nat.lcm p.b.natAbs p.d.natAbs : Nat) : Int) / p.d) * p.d = p.c * ((Nat.lcm p.b.natAbs p.d.natAbs : Nat) : Int)
    grind
theorem gc_low {a b : Int} (hb : 0 < b) : gc (a / gc a b) (b / gc a b) = 1 := by
  have g := gc_pos (a := a) hb
  have h : Nat.gcd (a.natAbs / Nat.gcd a.natAbs b.natAbs) (b.natAbs / Nat.gcd a.natAbs b.natAbs) = 1 := Nat.coprime_div_gcd_div_gcd (by
    unfold gc at g
    omega)
  have e1 : (a / gc a b).natAbs = a.natAbs / Nat.gcd a.natAbs b.natAbs := by
    rw [Int.natAbs_ediv_of_dvd (gc_dl a b)]
    rfl
  have e2 : (b / gc a b).natAbs = b.natAbs / Nat.gcd a.natAbs b.natAbs := by
    rw [Int.natAbs_ediv_of_dvd (gc_dr a b)]
    rfl
  show (((Nat.gcd (a / gc a b).natAbs (b / gc a b).natAbs : Nat)) : Int) = 1
  rw [e1, e2, h]
  rfl
theorem told_ok {t : Tr} (h : t.Ok 400) : (toldP t).Ok := by
  obtain ⟨hw, hx, hy, hz⟩ := h
  exact ⟨div_pos hw (gc_pos hw) (gc_dr _ _), div_pos hw (gc_pos hw) (gc_dr _ _), gc_low hw, gc_low hw, B_div hx, B_div hz, B_div hy, B_div hz⟩
theorem rel_told {t : Tr} (hw : 0 < t.w) : Rel (toldP t) t := by
  have e1 := cancel (gc_dl t.x t.w)
  have e2 := cancel (gc_dr t.x t.w)
  have e3 := cancel (gc_dl t.y t.w)
  have e4 := cancel (gc_dr t.y t.w)
  have g1 := gc_pos (a := t.x) hw
  have g2 := gc_pos (a := t.y) hw
  refine ⟨?_, ?_, hw, div_pos hw g1 (gc_dr _ _), div_pos hw g2 (gc_dr _ _)⟩
  · show t.x * (t.w / gc t.x t.w) = t.x / gc t.x t.w * t.w
    refine Int.eq_of_mul_eq_mul_left (a := gc t.x t.w) (by omega) ?_
    generalize gc t.x t.w = g at *
    generalize t.x / g = u at *
    generalize t.w / g = v at *
    grind
  · show t.y * (t.w / gc t.y t.w) = t.y / gc t.y t.w * t.w
    refine Int.eq_of_mul_eq_mul_left (a := gc t.y t.w) (by omega) ?_
    generalize gc t.y t.w = g at *
    generalize t.y / g = u at *
    generalize t.w / g = v at *
    grind
theorem side_det {p q r : Pt} : sideP p q r = sgn (det (scT p) (scT q) (scT r)) := by
  unfold sideP
  rw [al_det]
theorem Pt.Ok.rel {p : Pt} (h : p.Ok) : Rel p (scT p) := rel_sc h.hb h.hd
theorem side_rel {p q r : Pt} {t u v : Tr} (hp : p.Ok) (hq : q.Ok) (hr : r.Ok) (h : Rel p t) (g : Rel q u) (k : Rel r v) : sideP p q r = sgn (det t u v) := by
  rw [side_det]
  exact sgn_det hp.rel h hq.rel g hr.rel k
theorem onP_rel {p q r : Pt} {t u v : Tr} (hp : p.Ok) (hq : q.Ok) (hr : r.Ok) (h : Rel p t) (g : Rel q u) (k : Rel r v) (ne : p ≠ q) : onP p q r = onT t u v := by
  unfold onP onT
  have e := sgn_zero (m := det t u v)
  rw [← side_rel hp hq hr h g k] at e
  rw [← ahead_less h g hp hq, ← ahead_less k h hr hp, ← ahead_less g k hq hr, ← ahead_less k g hr hq, ← ahead_less h k hp hr, ahead_tri hp hq ne]
  by_cases z : sideP p q r = 0
  · rw [if_neg (show ¬ sideP p q r ≠ 0 from fun w => w z), if_neg (show ¬ det t u v ≠ 0 from fun w => w (e.mp z))]
    cases ahead p q <;> rfl
  · rw [if_pos z, if_pos (show det t u v ≠ 0 from fun w => z (e.mpr w))]
theorem side_rot {p q r : Pt} : sideP q r p = sideP p q r := by
  rw [side_det, side_det, det_rot]
theorem side_swap {p q r : Pt} : sideP q p r = 0 - sideP p q r := by
  rw [side_det, side_det, det_swap, sgn_neg]
theorem side_eq1 {p r : Pt} : sideP p p r = 0 := by
  rw [side_det, det_eq1]
  rfl
theorem onP_swap {p q r : Pt} (hp : p.Ok) (hq : q.Ok) (ne : p ≠ q) : onP q p r = onP p q r := by
  unfold onP
  rw [side_swap, ahead_tri hp hq ne]
  by_cases z : sideP p q r = 0
  · rw [z]
    cases ahead p q <;> rfl
  · rw [if_pos (by omega), if_pos z]
theorem onP_end {p q : Pt} (hp : p.Ok) (hq : q.Ok) (ne : p ≠ q) : onP p q q = true := by
  unfold onP
  rw [← side_rot, side_eq1, ahead_tri hp hq ne, ahead_irr]
  cases ahead p q <;> rfl
end K02
namespace K02
open PySem PySem.Spec PyProof.Rows L2 DL
theorem spS_use {c : Nat} {post : D → Prop} {p : Addr} {st : Sto} {Q : Kd} {n : Nat} {xs : List D} (hst : st p = some xs) (hx : SprL xs n) (hn : n + c < 2 ^ 40) (k : ∀ d xs', post d → SprL xs' (n + c) → Q d (put st p xs')) : spS c post p st Q := ⟨n, xs, hst, hx, hn, k⟩
theorem r_number : ∀ ds st Q, sp_number ds st Q → b_number { nx := fun _ s' => Q (.d .none) s', rt := Q } (startD N_number ds) st := by
  intro ds st Q h
  unfold sp_number at h
  split at h
  · rename_i p
    obtain ⟨n, ys, hst, hy, hn, k⟩ := h
    walk_at "st"
    unfold b_number b_number_1 b_number_2 b_number_3
    refine ⟨_, rfl, by decide, by decide, spS_use hst hy (by omega) ?_⟩
    rintro _ y1 ⟨i, rfl, i0, i1⟩ hy
    refine ⟨_, rfl, by decide, by decide, by decide, spS_use put_same hy (by omega) ?_⟩
    rintro _ y2 ⟨u, rfl, hu⟩ hy
    have hu : ∃ j : Int, u = .int j ∧ 0 < j ∧ j < 8 := by
      simp only [List.mem_cons, List.not_mem_nil, or_false] at hu
      rcases hu with rfl | rfl | rfl | rfl | rfl | rfl | rfl <;> exact ⟨_, rfl, by decide, by decide⟩
    obtain ⟨j, rfl, j0, j1⟩ := hu
    rw [put_put]
    have fin : ∀ (t b : Int) (m : Nat) (y : List D), 0 < b → B 30 t → B 30 b → SprL y m → m ≤ n + 4 → sp_part [I t, I b] (put st p y) (frz Q) := by
      intro t b m y hb ht hb' hy hm
      exact ⟨hb, B_mono ht (by decide), B_mono hb' (by decide), .inl (k _ y ⟨_, _, rfl, div_pos hb (gc_pos hb) (gc_dr _ _), gc_low hb, B_div ht, B_div hb'⟩ (hy.mono hm))⟩
    have rest : ∀ (t : Int) (y : List D), B 30 t → SprL y (n + 3) → (b_number_3) { nx := fun _ s' => Q (.d .none) s', rt := Q } [some (.own p), some (I i), some (I j), some (I t)] (put st p y) := by
      intro t y ht hy
      unfold b_number_3
      refine ⟨_, rfl, _, rfl, ?_⟩
      by_cases h9 : i < 9
      · refine ⟨trivial, ?_⟩
        show if decide (i < 9) = true then _ else _
        rw [if_pos (decide_eq_true h9)]
        exact ⟨_, rfl, fin t j _ y j0 ht (B_of 8 (by omega) (by decide)) hy (by omega)⟩
      · refine ⟨trivial, ?_⟩
        show if decide (i < 9) = true then _ else _
        rw [if_neg (by simpa using h9)]
        refine ⟨_, rfl, by decide, by decide, spS_use put_same hy (by omega) ?_⟩
        rintro _ y3 ⟨v, rfl, v0, v1⟩ hy3
        rw [put_put]
        exact fin t _ _ y3 (by omega) ht (B_of 1001000 (by omega) (by decide)) hy3 (by omega)
    refine ⟨_, rfl, ?_⟩
    by_cases h8 : i < 8
    · refine ⟨trivial, ?_⟩
      show if decide (i < 8) = true then _ else _
      rw [if_pos (decide_eq_true h8)]
      refine ⟨_, rfl, by decide, by decide, spS_use put_same hy (by omega) ?_⟩
      rintro _ y3 ⟨v, rfl, v0, v1⟩ hy3
      rw [put_put]
      exact ⟨trivial, .inl (rest (v - 4) y3 (B_of 8 (by omega) (by decide)) hy3)⟩
    · refine ⟨trivial, ?_⟩
      show if decide (i < 8) = true then _ else _
      rw [if_neg (by simpa using h8)]
      refine ⟨_, rfl, by decide, by decide, spS_use put_same hy (by omega) ?_⟩
      rintro _ y3 ⟨v, rfl, v0, v1⟩ hy3
      rw [put_put]
      exact ⟨trivial, .inl (rest (v - 1000000) y3 (B_of 1000001 (by omega) (by decide)) hy3)⟩
  · exact h.elim
end K02
namespace K02
open PySem PySem.Spec PyProof.Rows L2 DL
theorem place_ok {n : Nat} {x y w : Int} (hw : 0 < w) (hx : B n x) (hy : B n y) (hz : B n w) : (placeT x y w).Ok n := ⟨div_pos hw (gc_pos hw) (gc_dr _ _), B_div hx, B_div hy, B_div hz⟩
theorem B_small {i : Int} (h0 : -8 < i) (h1 : i < 8) : B 3 i := by
  unfold B
  omega
theorem mulW' {i j : Int} {a b : Nat} (ha : B a i) (hb : B b j) (h0 : 0 < a := by decide) (h1 : 0 < b := by decide) (h : a + b ≤ 1000000 := by decide) : CMulW i j := mulW ha hb h0 h1 h
theorem B_mul' {a b : Nat} {i j : Int} (h : B a i) (g : B b j) : B (a + b) (i * j) := B_mul h g (Nat.le_refl _)
theorem r_third : ∀ ds st Q, sp_third ds st Q → b_third { nx := fun _ s' => Q (.d .none) s', rt := Q } (startD N_third ds) st := by
  intro ds st Q h
  unfold sp_third at h
  split at h
  · rename_i p x y w x' y' w'
    obtain ⟨⟨w0, bx, by', bw⟩, ⟨w0', bx', by'', bw'⟩, n, ys, hst, hy, hn, k⟩ := h
    walk_at "st"
    refine ⟨_, rfl, by decide, by decide, _, _, hst, hy, by omega, ?_⟩
    rintro _ y1 ⟨i, rfl, i0, i1⟩ hy
    refine .inl ⟨_, rfl, ?_⟩
    show if decide (i = 4) = true then _ else _
    by_cases h4 : i = 4
    · rw [if_pos (decide_eq_true h4)]
      refine ⟨_, rfl, _, _, put_same, hy, by omega, ?_⟩
      rintro _ y2 ⟨a, b, rfl, b0, g1, ba, bb⟩ hy
      rw [put_put]
      refine ⟨_, rfl, _, _, put_same, hy, by omega, ?_⟩
      rintro _ y3 ⟨c, d, rfl, d0, g2, bc, bd⟩ hy
      rw [put_put]
      have m : ∀ {i}, B 30 i → B 400 i := fun h => B_mono h (by decide)
      have n2 : ∀ {i j}, B 30 i → B 30 j → B 400 (i * j) := fun h g => B_mul h g (by decide)
      refine ⟨big_ok (by show 2 ≤ 3000; decide), b0, d0, m ba, m bb, m bc, m bd, .inl ?_⟩
      exact k _ y3 ⟨_, rfl, place_ok (Int.mul_pos b0 d0) (n2 ba bd) (n2 bc bb) (n2 bb bd)⟩ (hy.mono (by omega))
    · rw [if_neg (by simpa using h4)]
      refine ⟨_, rfl, by decide, by decide, by decide, _, _, put_same, hy, by omega, ?_⟩
      rintro _ y2 ⟨u, rfl, hu⟩ hy
      have hu : ∃ j : Int, u = .int j ∧ 0 < j ∧ j < 5 := by
        simp only [List.mem_cons, List.not_mem_nil, or_false] at hu
        rcases hu with rfl | rfl | rfl | rfl | rfl <;> exact ⟨_, rfl, by decide, by decide⟩
      obtain ⟨j, rfl, j0, j1⟩ := hu
      rw [put_put]
      refine ⟨_, rfl, by decide, by decide, _, _, put_same, hy, by omega, ?_⟩
      rintro _ y3 ⟨v, rfl, v0, v1⟩ hy
      rw [put_put]
      have bj : B 3 j := B_small (by omega) (by omega)
      have bv : B 3 (v - 2) := B_small (by omega) (by omega)
      have bjv : B 4 (j - (v - 2)) := B_sub bj bv (by decide) (by decide)
      have t1 : ∀ {a b : Int}, B 100 a → B 100 b → B 300 (a * b * (j - (v - 2))) := fun h g => B_mul (B_mul' h g) bjv (by decide)
      have t2 : ∀ {a b : Int}, B 100 a → B 100 b → B 300 (a * b * (v - 2)) := fun h g => B_mul (B_mul' h g) bv (by decide)
      have ww : B 300 (j * w * w') := B_mul (B_mul' bj bw) bw' (by decide)
      have w1 : 0 < j * w * w' := Int.mul_pos (Int.mul_pos j0 w0) w0'
      have xx : B 301 (x * w' * (j - (v - 2)) + x' * w * (v - 2)) := B_add (t1 bx bw') (t2 bx' bw) (by decide) (by decide)
      have yy : B 301 (y * w' * (j - (v - 2)) + y' * w * (v - 2)) := B_add (t1 by' bw') (t2 by'' bw) (by decide) (by decide)
      refine ⟨trivial, ?_⟩
      show (dSeq b_third_4 (dSeq b_third_5 (dSeq b_third_6 (dSeq b_third_7 b_third_8)))) { nx := fun _ s' => Q (.d .none) s', rt := Q } [some (.own p), some (.d (.tuple [.int x, .int y, .int w])), some (.d (.tuple [.int x', .int y', .int w'])), some (I i), some (I j), some (I (v - 2)), none, none, none, none] (put st p y3)
      unfold b_third_4 b_third_5 b_third_6 b_third_7 b_third_8
      walk_at "gk"
      refine ⟨mulW' bx bw', mulW' (B_mul' bx bw') bjv, mulW' bx' bw, mulW' (B_mul' bx' bw) bv, mulW' by' bw', mulW' (B_mul' by' bw') bjv, mulW' by'' bw, mulW' (B_mul' by'' bw) bv, mulW' bj bw, mulW' (B_mul' bj bw) bw', ⟨by decide, by decide, by decide⟩, ?_⟩
      generalize x * w' * (j - (v - 2)) + x' * w * (v - 2) = X at *
      generalize y * w' * (j - (v - 2)) + y' * w * (v - 2) = Y at *
      generalize j * w * w' = W at *
      refine ⟨by decide, by decide, _, _, put_same, hy, by omega, ?_⟩
      rintro _ y4 ⟨u, rfl, u0, u1⟩ hy
      rw [put_put]
      dsimp only
      have b3 : B 3 3 := by
        unfold B
        decide
      have bu : B 10 u := B_of 101 (by omega) (by decide)
      refine ⟨mulW' b3 bu, ?_⟩
      have m : ∀ {i}, B 301 i → B 2000 i := fun h => B_mono h (by decide)
      have m0 : ∀ {i}, B 300 i → B 2000 i := fun h => B_mono h (by decide)
      have q : ∀ {i}, B 301 i → B 400 i := fun h => B_mono h (by decide)
      have q0 : ∀ {i}, B 300 i → B 400 i := fun h => B_mono h (by decide)
      by_cases h3 : i < 3
      · rw [if_pos h3]
        exact ⟨w1, m xx, m yy, m0 ww, k _ y4 ⟨_, rfl, place_ok w1 (q xx) (q yy) (q0 ww)⟩ (hy.mono (by omega))⟩
      · rw [if_neg h3]
        refine ⟨by decide, by decide, _, _, put_same, hy, by omega, ?_⟩
        rintro _ y5 ⟨z, rfl, z0, z1⟩ hy
        rw [put_put]
        have ff : (10 : Int) ^ Int.toNat 6 = 1000000 := by decide
        rw [ff]
        have bf : B 30 (1000000 + 3 * u) := B_of 1000400 (by omega) (by decide)
        have f0 : 0 < 1000000 + 3 * u := by omega
        generalize 1000000 + 3 * u = F at *
        have c1 : ∀ {i}, B 301 i → CMulW i F := fun h => mulW' h bf
        have c2 : CMulW W F := mulW' ww bf
        have n1 : ∀ {i}, B 301 i → B 331 (i * F) := fun h => B_mul' h bf
        have n2 : B 330 (W * F) := B_mul' ww bf
        have e1 : ∀ {i}, B 331 i → B 400 i := fun h => B_mono h (by decide)
        have e2 : ∀ {i}, B 330 i → B 400 i := fun h => B_mono h (by decide)
        have e3 : ∀ {i}, B 400 i → B 2000 i := fun h => B_mono h (by decide)
        have s1 : B 400 (Y * F + W) := B_add (n1 yy) ww (by decide) (by decide)
        have s2 : B 400 (X * F - W) := B_sub (n1 xx) ww (by decide) (by decide)
        have p1 : 0 < W * F := Int.mul_pos w1 f0
        dsimp only
        by_cases hz : z = 0
        · rw [if_pos hz]
          exact ⟨c1 xx, c1 yy, c2, p1, e3 (e1 (n1 xx)), e3 s1, e3 (e2 n2), k _ y5 ⟨_, rfl, place_ok p1 (e1 (n1 xx)) s1 (e2 n2)⟩ (hy.mono (by omega))⟩
        · rw [if_neg hz]
          exact ⟨c1 xx, c1 yy, c2, p1, e3 s2, e3 (e1 (n1 yy)), e3 (e2 n2), k _ y5 ⟨_, rfl, place_ok p1 s2 (e1 (n1 yy)) (e2 n2)⟩ (hy.mono (by omega))⟩
  · exact h.elim
end K02
namespace K02
open PySem PySem.Spec PyProof.Rows L2 DL
def okR (x : PyData) : Prop := x.hasDict = false ∧ x.showable = true ∧ x.shown.length ≤ sizeLine ∧ x.depth ≤ 64
instance {x : PyData} : Decidable (okR x) := inferInstanceAs (Decidable (_ ∧ _))
theorem okR_b1 : ∀ b : Bool, okR (.bool b) := by decide +kernel
theorem okR_b7 : ∀ b1 b2 b3 b4 b5 b6 b7 : Bool, okR (.list [.bool b1, .bool b2, .bool b3, .bool b4, .bool b5, .bool b6, .bool b7]) := by decide +kernel
theorem okR_b4 : ∀ b1 b2 b3 b4 : Bool, okR (.list [.bool b1, .bool b2, .bool b3, .bool b4]) := by decide +kernel
theorem okR_d3 : okR (.list [.int 0, .int 0, .int 0]) := by decide +kernel
theorem okR_d7 {d : Int} (h : d = 0 ∨ d = 1 ∨ d = -1) : okR (.list [.int d, .int d, .int d, .int d, .int (0 - d), .int (0 - d), .int (0 - d)]) := by
  rcases h with rfl | rfl | rfl <;> decide +kernel
/-- two texts that are one -/
theorem repr_then {x : PyData} {st : Sto} {Q : Kd} (h : okR x) (q : Q (.d (.str x.shown)) st) : cRepr [.d x] st Q := ⟨h.1, h.2.1, h.2.2.1, h.2.2.2, q⟩
theorem lcV_own {i k : Nat} {te : TEd} {e : Ed} {st : Sto} {Q : Kd} (a : Addr) (xs : List D) (f : D → PyData) (he : e[k]? = some (some (.own a))) (hs : st a = some xs) (hl : xs.length < sizeLine)
    (hf : ∀ d ∈ xs, ∀ K : Kd, K (.d (f d)) st → te (e.set i (some d)) st K) (q : Q (.d (.list (xs.map f))) st) : dLcV (dIter (dVar k)) i dYes te e st Q := by
  refine ⟨_, he, xs, hs, fun j acc st' => st' = st ∧ j ≤ xs.length ∧ acc = (xs.take j).map fun d => D.d (f d), ⟨rfl, Nat.zero_le _, rfl⟩, ?_⟩
  rintro j acc st' ⟨rfl, hj, rfl⟩
  refine ⟨(fun a ds z => by
    cases z
    exact hs), fun hd => ?_, fun d hd => ?_⟩
  · have e1 : xs.take j = xs := List.take_of_length_le hd
    rw [e1]
    refine ⟨xs.map f, ?_, q⟩
    rw [show (xs.map fun d => D.d (f d)) = (xs.map f).map D.d by rw [List.map_map]; rfl]
    exact pures_map _
  · have hd' : xs[j]? = some d := hd
    have hlt : j < xs.length := (List.getElem?_eq_some_iff.mp hd').1
    refine (show dYes (e.set i (some d)) st' (fun b s2 => if b = true then te (e.set i (some d)) s2 _ else _) from ?_)
    refine hf d (List.mem_of_getElem? hd') _ ⟨?_, rfl, hlt, ?_⟩
    · rw [List.length_map, List.length_take]
      omega
    · rw [List.take_add_one, hd', List.map_append]
      rfl
structure PtS (p : Pt) : Prop where
  hb : 0 < p.b
  hd : 0 < p.d
  g1 : gc p.a p.b = 1
  g2 : gc p.c p.d = 1
  ba : B 30 p.a
  bb : B 30 p.b
  bc : B 30 p.c
  bd : B 30 p.d
theorem PtS.ok {p : Pt} (h : PtS p) : p.Ok := ⟨h.hb, h.hd, h.g1, h.g2, B_mono h.ba (by decide), B_mono h.bb (by decide), B_mono h.bc (by decide), B_mono h.bd (by decide)⟩
theorem Pt.Ok.plain {p : Pt} (h : p.Ok) : Plain 2 p.py := by
  have m : ∀ {i}, B 400 i → B 1000 i := fun h => B_mono h (by decide)
  refine ⟨by show 2 ≤ 1000; decide, pt_sh, ?_⟩
  have f : ∀ {a b : Int}, B 400 a → B 400 b → Plain 1 (fr a b) := by
    intro a b ha hb
    refine ⟨by show 2 ≤ 1000; decide, fr_sh, ?_⟩
    intro x hx
    rcases List.mem_cons.mp hx with rfl | hx
    · exact m ha
    · rcases List.mem_cons.mp hx with rfl | hx
      · exact m hb
      · cases hx
  intro x hx
  rcases List.mem_cons.mp hx with rfl | hx
  · exact f h.ba h.bb
  · rcases List.mem_cons.mp hx with rfl | hx
    · exact f h.bc h.bd
    · cases hx
theorem right_end {P P' F : Pt} {p : Addr} {d3 d4 d5 d7 d8 d9 d10 : Option D} {st : Sto} {y : List D} {Q : Kd} (hQ : ∀ st', Q (Bo true) st') (hP : P.Ok) (hP' : P'.Ok) (hF : F.Ok) (hst : st p = some y) (hy : SprL y 28) :
    (dSeq b_right_12 (dSeq b_right_13 (dSeq b_right_14 b_right_15))) { nx := fun _ s' => Q (.d .none) s', rt := Q } [some (.own p), some (.d P.py), some (.d P'.py), d3, d4, d5, some (.d F.py), d7, d8, d9, d10, none, none] st := by
  refine ⟨_, rfl, _, rfl, _, rfl, _, rfl, hP'.plain, _, _, hst, hy, by decide, ?_⟩
  rintro _ y2 ⟨x2, rfl⟩ hy
  refine ⟨_, rfl, _, rfl, hF.plain, _, _, put_same, hy, by decide, ?_⟩
  rintro _ y3 ⟨x3, rfl⟩ hy
  refine ⟨_, rfl, _, _, put_same, hy, by decide, ?_⟩
  rintro _ y4 ⟨x4, rfl⟩ hy
  rw [put_put, put_put]
  refine ⟨_, rfl, _, rfl, by show 6 ≤ sizeLine; decide, .inr fun a ha => .inl ?_⟩
  have ne : a ≠ p := fun z => by
    subst z
    rw [put_same] at ha
    cases ha
  show (dSeq b_right_13 (dSeq b_right_14 b_right_15)) { nx := fun _ s' => Q (.d .none) s', rt := Q } [some (.own p), some (.d P.py), some (.d P'.py), d3, d4, d5, some (.d F.py), d7, d8, d9, d10, some (.own a), none] _
  have e1 : (put (put st p y4) a [D.d P.py, D.d F.py, D.d x2, D.d x3, D.d x4, D.d (fr P.a P.b)]) p = some y4 := by
    rw [put_ne ne.symm, put_same]
  refine ⟨_, rfl, by rw [put_same]; rfl, _, rfl, _, rfl, _, rfl, _, _, e1, hy, by decide, ?_⟩
  rintro _ y5 ⟨x5, rfl⟩ hy
  have e2 : (put (put (put st p y4) a [D.d P.py, D.d F.py, D.d x2, D.d x3, D.d x4, D.d (fr P.a P.b)]) p y5) a = some [D.d P.py, D.d F.py, D.d x2, D.d x3, D.d x4, D.d (fr P.a P.b)] := by
    rw [put_ne ne, put_same]
  refine ⟨by show 2 ≤ sizeLine; decide, _, e2, by show 6 < sizeLine; decide, ?_⟩
  show (dSeq b_right_14 b_right_15) { nx := fun _ s' => Q (.d .none) s', rt := Q } [some (.own p), some (.d P.py), some (.d P'.py), d3, d4, d5, some (.d F.py), d7, d8, d9, d10, some (.own a), none] _
  generalize hx5 : PyData.tuple [fr P.a P.b, x5] = x6
  generalize (put (put (put st p y4) a [D.d P.py, D.d F.py, D.d x2, D.d x3, D.d x4, D.d (fr P.a P.b)]) p y5) = st4 at *
  have e3 : (put st4 a ([D.d P.py, D.d F.py, D.d x2, D.d x3, D.d x4, D.d (fr P.a P.b)] ++ [D.d x6])) a = some [D.d P.py, D.d F.py, D.d x2, D.d x3, D.d x4, D.d (fr P.a P.b), D.d x6] := put_same
  obtain ⟨k1, k2, k3, k4⟩ := okR_b1 (isPl x2)
  refine ⟨_, rfl, _, _, e3, rfl, ?_⟩
  refine ⟨k1, k2, k3, k4, ?_⟩
  refine ⟨_, rfl, _, _, e3, rfl, ?_⟩
  refine ⟨k1, k2, k3, k4, ?_⟩
  show if (!decide ((PyData.bool (isPl x2)).shown = (PyData.bool (isPl x2)).shown)) = true then _ else _
  rw [decide_eq_true rfl, if_neg (by decide)]
  show b_right_15 { nx := fun _ s' => Q (.d .none) s', rt := Q } [some (.own p), some (.d P.py), some (.d P'.py), d3, d4, d5, some (.d F.py), d7, d8, d9, d10, some (.own a), none] _
  obtain ⟨l1, l2, l3, l4⟩ := okR_b7 (isPl P.py) (isPl F.py) (isPl x2) (isPl x3) (isPl x4) (isPl (fr P.a P.b)) (isPl x6)
  have all : ∀ d ∈ [D.d P.py, D.d F.py, D.d x2, D.d x3, D.d x4, D.d (fr P.a P.b), D.d x6], ∃ x, d = .d x := by
    intro d hd
    simp only [List.mem_cons, List.not_mem_nil, or_false] at hd
    rcases hd with rfl | rfl | rfl | rfl | rfl | rfl | rfl <;> exact ⟨_, rfl⟩
  refine lcV_own a _ (unB isPl) rfl e3 (by show 7 < sizeLine; decide) ?_ ?_
  · intro d hd K k
    obtain ⟨x, rfl⟩ := all d hd
    exact ⟨_, rfl, k⟩
  · refine ⟨l1, l2, l3, l4, ?_⟩
    refine lcV_own a _ (unB isPl) rfl e3 (by show 7 < sizeLine; decide) ?_ ?_
    · intro d hd K k
      obtain ⟨x, rfl⟩ := all d hd
      exact ⟨_, rfl, k⟩
    · refine ⟨l1, l2, l3, l4, ?_⟩
      refine .inl ?_
      have := hQ (put st4 a ([D.d P.py, D.d F.py, D.d x2, D.d x3, D.d x4, D.d (fr P.a P.b)] ++ [D.d x6]))
      rw [show Bo true = D.d (.bool (decide ((PyData.list ([D.d P.py, D.d F.py, D.d x2, D.d x3, D.d x4, D.d (fr P.a P.b), D.d x6].map (unB isPl))).shown = (PyData.list ([D.d P.py, D.d F.py, D.d x2, D.d x3, D.d x4, D.d (fr P.a P.b), D.d x6].map (unB isPl))).shown))) by rw [decide_eq_true rfl]] at this
      exact this
end K02
namespace K02
open PySem PySem.Spec PyProof.Rows L2 DL
theorem own_B {p : Pt} (h : PtS p) : (ownT p).Ok 100 := place_ok (Int.mul_pos h.hb h.hd) (B_mul h.ba h.bd (by decide)) (B_mul h.bc h.bb (by decide)) (B_mul h.bb h.bd (by decide))
theorem right_on {P P' : Pt} {R : Tr} {p : Addr} {d7 d8 : Option D} {st : Sto} {y : List D} {Q : Kd} (hQ : ∀ st', Q (Bo true) st') (hP : PtS P) (hP' : PtS P') (hR : R.Ok 400) (hst : st p = some y) (hy : SprL y 28) :
    (dSeq b_right_11 (dSeq b_right_12 (dSeq b_right_13 (dSeq b_right_14 b_right_15)))) { nx := fun _ s' => Q (.d .none) s', rt := Q } [some (.own p), some (.d P.py), some (.d P'.py), some (.d (ownT P).py), some (.d (ownT P').py), some (.d R.py), some (.d (toldP R).py), d7, d8, none, none, none, none] st := by
  have hF := told_ok hR
  refine ⟨_, rfl, _, rfl, pt_sh, pt_sh, ?_⟩
  rw [pt_eqv]
  by_cases ne : P = P'
  · rw [decide_eq_true ne]
    exact right_end hQ hP.ok hP'.ok hF hst hy
  · rw [decide_eq_false ne]
    have m : ∀ {i}, B 100 i → B 1000 i := fun h => B_mono h (by decide)
    have m4 : ∀ {i}, B 400 i → B 1000 i := fun h => B_mono h (by decide)
    have b1 := own_B hP
    have b2 := own_B hP'
    have r1 := rel_own hP.hb hP.hd
    have r2 := rel_own hP'.hb hP'.hd
    have r3 := rel_told hR.hw
    have e1 : onT (ownT P) (ownT P') R = onP P P' (toldP R) := (onP_rel hP.ok hP'.ok hF r1 r2 r3 ne).symm
    have e2 : onP P' P (toldP R) = onP P P' (toldP R) := onP_swap hP.ok hP'.ok ne
    have e3 : onP P P' P' = true := onP_end hP.ok hP'.ok ne
    refine ⟨_, rfl, _, rfl, _, rfl, ⟨m b1.bx, m b1.by_, m b1.bw⟩, ⟨m b2.bx, m b2.by_, m b2.bw⟩, ⟨m4 hR.bx, m4 hR.by_, m4 hR.bw⟩, .inl ?_⟩
    refine ⟨_, rfl, _, rfl, by show 2 ≤ sizeLine; decide, .inl ?_⟩
    refine ⟨_, rfl, _, rfl, P, P', toldP R, rfl, hP.ok, hP'.ok, hF, ne, ?_⟩
    refine ⟨_, rfl, _, rfl, P', P, toldP R, rfl, hP'.ok, hP.ok, hF, Ne.symm ne, ?_⟩
    refine ⟨_, rfl, _, rfl, P, P', toldP R, rfl, hP.ok, hP'.ok, hF, ne, ?_⟩
    refine ⟨_, rfl, _, rfl, P, P', P', rfl, hP.ok, hP'.ok, hP'.ok, ne, ?_⟩
    refine ⟨by show 4 ≤ sizeLine; decide, .inl ?_⟩
    have hb : ∃ b, b = onP P P' (toldP R) := ⟨_, rfl⟩
    obtain ⟨b, hb⟩ := hb
    rw [e1, e2, e3, ← hb]
    obtain ⟨l1, l2, l3, l4⟩ := okR_b4 b b b true
    refine ⟨_, rfl, l1, l2, l3, l4, ?_⟩
    refine ⟨_, rfl, _, rfl, _, rfl, by show 4 ≤ sizeLine; decide, ?_⟩
    refine ⟨l1, l2, l3, l4, ?_⟩
    show if (!decide ((PyData.list [.bool b, .bool b, .bool b, .bool true]).shown = (PyData.list [.bool b, .bool b, .bool b, .bool true]).shown)) = true then _ else _
    rw [decide_eq_true rfl, if_neg (by decide)]
    exact right_end hQ hP.ok hP'.ok hF hst hy
theorem right_turn {P P' : Pt} {p : Addr} {st : Sto} {y : List D} {Q : Kd} (hQ : ∀ st', Q (Bo true) st') (hP : PtS P) (hP' : PtS P') (hst : st p = some y) (hy : SprL y 19) :
    (dSeq b_right_3 (dSeq b_right_4 (dSeq b_right_5 (dSeq b_right_6 (dSeq b_right_7 (dSeq b_right_8 (dSeq b_right_9 (dSeq b_right_10 (dSeq b_right_11 (dSeq b_right_12 (dSeq b_right_13 (dSeq b_right_14 b_right_15)))))))))))) { nx := fun _ s' => Q (.d .none) s', rt := Q } [some (.own p), some (.d P.py), some (.d P'.py), none, none, none, none, none, none, none, none, none, none] st := by
  have m : ∀ {i}, B 100 i → B 1000 i := fun h => B_mono h (by decide)
  have m4 : ∀ {i}, B 400 i → B 1000 i := fun h => B_mono h (by decide)
  have b1 := own_B hP
  have b2 := own_B hP'
  have p1 := hP.ok
  have p2 := hP'.ok
  refine ⟨_, rfl, hP.hb, hP.hd, p1.ba, p1.bb, p1.bc, p1.bd, ?_⟩
  refine ⟨_, rfl, hP'.hb, hP'.hd, p2.ba, p2.bb, p2.bc, p2.bd, ?_⟩
  refine ⟨_, rfl, _, rfl, _, rfl, ⟨b1.hw, b1.bx, b1.by_, b1.bw⟩, ⟨b2.hw, b2.bx, b2.by_, b2.bw⟩, _, _, hst, hy, by decide, ?_⟩
  rintro _ y2 ⟨R, rfl, hR⟩ hy
  refine .inl ⟨_, rfl, hR, .inl ?_⟩
  have hF := told_ok hR
  have r1 := rel_own hP.hb hP.hd
  have r2 := rel_own hP'.hb hP'.hd
  have r3 := rel_told hR.hw
  refine ⟨_, rfl, _, rfl, _, rfl, ⟨m b1.bx, m b1.by_, m b1.bw⟩, ⟨m b2.bx, m b2.by_, m b2.bw⟩, ⟨m4 hR.bx, m4 hR.by_, m4 hR.bw⟩, .inl ?_⟩
  have e0 : sgn (det (ownT P) (ownT P') R) = sideP P P' (toldP R) := (side_rel p1 p2 hF r1 r2 r3).symm
  show (dSeq b_right_7 (dSeq b_right_8 (dSeq b_right_9 (dSeq b_right_10 (dSeq b_right_11 (dSeq b_right_12 (dSeq b_right_13 (dSeq b_right_14 b_right_15)))))))) { nx := fun _ s' => Q (.d .none) s', rt := Q } [some (.own p), some (.d P.py), some (.d P'.py), some (.d (ownT P).py), some (.d (ownT P').py), some (.d R.py), some (.d (toldP R).py), some (I (sgn (det (ownT P) (ownT P') R))), none, none, none, none, none] _
  rw [e0]
  refine ⟨_, rfl, _, rfl, _, rfl, P, P', toldP R, rfl, p1, p2, hF, ?_⟩
  refine ⟨_, rfl, _, rfl, _, rfl, P', toldP R, P, rfl, p2, hF, p1, ?_⟩
  refine ⟨_, rfl, _, rfl, _, rfl, toldP R, P, P', rfl, hF, p1, p2, ?_⟩
  refine ⟨_, rfl, _, rfl, _, rfl, P, P', toldP R, rfl, p1, p2, hF, ?_⟩
  refine ⟨by show 4 ≤ sizeLine; decide, .inl ?_⟩
  refine ⟨_, rfl, ?_⟩
  refine ⟨_, rfl, _, rfl, _, rfl, P', P, toldP R, rfl, p2, p1, hF, ?_⟩
  refine ⟨_, rfl, _, rfl, _, rfl, P, toldP R, P', rfl, p1, hF, p2, ?_⟩
  refine ⟨_, rfl, _, rfl, _, rfl, toldP R, P', P, rfl, hF, p2, p1, ?_⟩
  refine ⟨by show 3 ≤ sizeLine; decide, ?_⟩
  refine ⟨by show 4 + 3 ≤ sizeLine; decide, .inl ?_⟩
  have s1 : sideP P' (toldP R) P = sideP P P' (toldP R) := side_rot
  have s2 : sideP (toldP R) P P' = sideP P P' (toldP R) := by rw [side_rot, s1]
  have s3 : sideP P' P (toldP R) = 0 - sideP P P' (toldP R) := side_swap
  have s4 : sideP P (toldP R) P' = 0 - sideP P P' (toldP R) := by rw [side_rot, s3]
  have s5 : sideP (toldP R) P' P = 0 - sideP P P' (toldP R) := by rw [side_rot, s4]
  have s6 : sideP P P (toldP R) = 0 := side_eq1
  have s7 : sideP (toldP R) P (toldP R) = 0 := by rw [side_rot, side_eq1]
  have s8 : sideP P (toldP R) (toldP R) = 0 := by rw [side_rot, s7]
  have hS : sideP P P' (toldP R) = 0 ∨ sideP P P' (toldP R) = 1 ∨ sideP P P' (toldP R) = -1 := by
    rw [side_det]
    unfold sgn
    split
    · exact .inl rfl
    · split
      · exact .inr (.inl rfl)
      · exact .inr (.inr rfl)
  rw [s1, s2, s3, s4, s5]
  generalize hS' : sideP P P' (toldP R) = S at *
  show (dSeq b_right_9 (dSeq b_right_10 (dSeq b_right_11 (dSeq b_right_12 (dSeq b_right_13 (dSeq b_right_14 b_right_15)))))) { nx := fun _ s' => Q (.d .none) s', rt := Q } [some (.own p), some (.d P.py), some (.d P'.py), some (.d (ownT P).py), some (.d (ownT P').py), some (.d R.py), some (.d (toldP R).py), some (I S), some (.d (.list [.int S, .int S, .int S, .int S, .int (0 - S), .int (0 - S), .int (0 - S)])), none, none, none, none] (put st p y2)
  obtain ⟨l1, l2, l3, l4⟩ := okR_d7 hS
  refine ⟨_, rfl, l1, l2, l3, l4, ?_⟩
  refine ⟨_, rfl, _, rfl, _, rfl, _, rfl, _, rfl, trivial, _, rfl, trivial, _, rfl, trivial, by show 7 ≤ sizeLine; decide, ?_⟩
  refine ⟨l1, l2, l3, l4, ?_⟩
  show if (!decide ((PyData.list [.int S, .int S, .int S, .int S, .int (0 - S), .int (0 - S), .int (0 - S)]).shown = (PyData.list [.int S, .int S, .int S, .int S, .int (0 - S), .int (0 - S), .int (0 - S)]).shown)) = true then _ else _
  rw [decide_eq_true rfl, if_neg (by decide)]
  refine ⟨_, rfl, _, rfl, _, rfl, P, P, toldP R, rfl, p1, p1, hF, ?_⟩
  refine ⟨_, rfl, _, rfl, _, rfl, P, toldP R, toldP R, rfl, p1, hF, hF, ?_⟩
  refine ⟨_, rfl, _, rfl, _, rfl, toldP R, P, toldP R, rfl, hF, p1, hF, ?_⟩
  obtain ⟨Z, hZ⟩ : ∃ Z : Int, Z = 0 := ⟨_, rfl⟩
  rw [s6.trans hZ.symm, s7.trans hZ.symm, s8.trans hZ.symm]
  obtain ⟨z1, z2, z3, z4⟩ : okR (.list [.int Z, .int Z, .int Z]) := by
    rw [hZ]
    exact okR_d3
  obtain ⟨k1, k2, k3, k4⟩ := okR_d3
  refine ⟨by show 3 ≤ sizeLine; decide, z1, z2, z3, z4, ?_⟩
  refine ⟨by show 3 ≤ sizeLine; decide, k1, k2, k3, k4, ?_⟩
  show if (!decide ((PyData.list [.int Z, .int Z, .int Z]).shown = (PyData.list [.int 0, .int 0, .int 0]).shown)) = true then _ else _
  rw [decide_eq_true (by rw [hZ]), if_neg (by decide)]
  exact right_on hQ hP hP' hR put_same (hy.mono (by decide))
end K02
namespace K02
open PySem PySem.Spec PyProof.Rows L2 DL
theorem r_right : ∀ ds st Q, sp_right ds st Q → b_right { nx := fun _ s' => Q (.d .none) s', rt := Q } (startD N_right ds) st := by
  intro ds st Q h
  unfold sp_right at h
  split at h
  · rename_i p
    obtain ⟨ys, hst, hy, hQ⟩ := h
    walk_at "st"
    refine ⟨_, rfl, _, _, hst, hy, by decide, ?_⟩
    rintro _ y1 ⟨a, b, rfl, a1, a2, a3, a4⟩ hy
    refine ⟨_, rfl, _, _, put_same, hy, by decide, ?_⟩
    rintro _ y2 ⟨c, d, rfl, c1, c2, c3, c4⟩ hy
    refine ⟨by show 2 ≤ sizeLine; decide, ?_⟩
    refine ⟨_, rfl, _, _, put_same, hy, by decide, ?_⟩
    rintro _ y3 ⟨a', b', rfl, a1', a2', a3', a4'⟩ hy
    refine ⟨_, rfl, _, _, put_same, hy, by decide, ?_⟩
    rintro _ y4 ⟨c', d', rfl, c1', c2', c3', c4'⟩ hy
    refine ⟨by show 2 ≤ sizeLine; decide, ?_⟩
    have hP : PtS ⟨a, b, c, d⟩ := ⟨a1, c1, a2, c2, a3, a4, c3, c4⟩
    have hP' : PtS ⟨a', b', c', d'⟩ := ⟨a1', c1', a2', c2', a3', a4', c3', c4'⟩
    rw [put_put, put_put, put_put]
    refine ⟨_, rfl, by decide, by decide, _, _, put_same, hy, by decide, ?_⟩
    rintro _ y5 ⟨i, rfl, i0, i1⟩ hy
    show if decide (i = 0) = true then _ else _
    by_cases hi : i = 0
    · rw [if_pos (decide_eq_true hi)]
      refine ⟨_, rfl, .inl ?_⟩
      exact right_turn (P := ⟨a, b, c, d⟩) (P' := ⟨a, b, c, d⟩) hQ hP hP put_same (hy.mono (by decide))
    · rw [if_neg (by simpa using hi)]
      refine ⟨_, rfl, by decide, by decide, _, _, put_same, hy, by decide, ?_⟩
      rintro _ y6 ⟨j, rfl, j0, j1⟩ hy
      show if decide (j = 0) = true then _ else _
      by_cases hj : j = 0
      · rw [if_pos (decide_eq_true hj)]
        refine ⟨_, rfl, by decide, by decide, _, _, put_same, hy, by decide, ?_⟩
        rintro _ y7 ⟨k, rfl, k0, k1⟩ hy
        show if decide (k = 0) = true then _ else _
        by_cases hk : k = 0
        · rw [if_pos (decide_eq_true hk)]
          refine ⟨_, rfl, _, rfl, _, rfl, _, rfl, by show 2 ≤ sizeLine; decide, .inl ?_⟩
          exact right_turn (P := ⟨a, b, c, d⟩) (P' := ⟨a, b, c', d'⟩) hQ hP ⟨a1, c1', a2, c2', a3, a4, c3', c4'⟩ put_same (hy.mono (by decide))
        · rw [if_neg (by simpa using hk)]
          refine ⟨_, rfl, _, rfl, _, rfl, _, rfl, by show 2 ≤ sizeLine; decide, .inl ?_⟩
          exact right_turn (P := ⟨a, b, c, d⟩) (P' := ⟨a', b', c, d⟩) hQ hP ⟨a1', c1, a2', c2, a3', a4', c3, c4⟩ put_same (hy.mono (by decide))
      · rw [if_neg (by simpa using hj)]
        exact right_turn (P := ⟨a, b, c, d⟩) (P' := ⟨a', b', c', d'⟩) hQ hP hP' put_same (hy.mono (by decide))
  · exact h.elim
theorem range_at {m j : Nat} {d : D} (h : ((List.range m).map fun (i : Nat) => D.d (.int (0 + i)))[j]? = some d) : d = I (0 + j) ∧ j < m := by
  have hlt := (List.getElem?_eq_some_iff.mp h).1
  rw [List.length_map, List.length_range] at hlt
  rw [List.getElem?_map, List.getElem?_range hlt] at h
  cases h
  exact ⟨rfl, hlt⟩
theorem r_law : ∀ ds st Q, sp_law ds st Q → b_law { nx := fun _ s' => Q (.d .none) s', rt := Q } (startD N_law ds) st := by
  intro ds st Q h
  unfold sp_law at h
  split at h
  · rename_i ns
    obtain ⟨hl, hQ⟩ := h
    walk_at "st"
    refine ⟨_, rfl, _, rfl, trivial, trivial, ?_⟩
    have nb : ∀ L : Int, 0 ≤ L → 0 ≤ (if (if (4 : Int) < L then (4 : Int) else L) > 2 then (if (4 : Int) < L then (4 : Int) else L) else 2) ∧ (if (if (4 : Int) < L then (4 : Int) else L) > 2 then (if (4 : Int) < L then (4 : Int) else L) else 2) ≤ 4 := by
      intro L h0
      split
      · split <;> omega
      · omega
    obtain ⟨n0, n1⟩ := nb ((ns.map fun n => D.d (.int n)).length : Int) (by omega)
    refine ⟨Int.le_trans (by decide) n0, Int.lt_of_le_of_lt n1 (by decide), fun j acc st' => j ≤ 4 ∧ acc = List.replicate j (Bo true), ⟨by omega, rfl⟩, ?_⟩
    rintro j acc st' ⟨hj, rfl⟩
    refine ⟨(fun a ds z => nomatch z), fun hd => ?_, fun d hd => ?_⟩
    · refine ⟨List.replicate j (.bool true), ?_, List.replicate j true, ?_, .inl ?_⟩
      · rw [show List.replicate j (Bo true) = (List.replicate j (PyData.bool true)).map D.d by rw [List.map_replicate]]
        exact pures_map _
      · show some ((List.replicate j (PyData.bool true)).map D.d) = _
        rw [List.map_replicate, List.map_replicate]
      · have e : (List.replicate j true).all _root_.id = true := by
          rw [List.all_replicate]
          split <;> rfl
        rw [e]
        exact hQ _
    · obtain ⟨rfl, hlt⟩ := range_at hd
      have hj4 : j < 4 := by omega
      refine ⟨_, rfl, _, rfl, ⟨hl, by omega, by omega, fun p xs hp hs => ?_⟩⟩
      refine ⟨xs, put_same, hs, fun st'' => ⟨?_, by omega, ?_⟩⟩
      · rw [List.length_replicate]
        exact Nat.lt_trans hj4 (by decide)
      · rw [List.replicate_succ']
  · exact h.elim
end K02
namespace K02
open PySem PySem.Spec PyProof.Rows L2 DL
section
variable {P : Program} {w : World} {K : PySem.W.Frag} {mg : Str → Option Value} {base : Heap}
theorem t_is_whole {k : Nat} (hk : 0 ≤ k) (T : Tx K mg)  (f : Addr) (cd : Value) (A : Around) (outer : List Env) (s : Shared) (H : Hp) (E : XK) (hG : A.guards = some []) (hr : Room k (A.deeper (envOfC "is_whole" (defScope s_is_whole) s.heap.objs.size f cd))) :
    PDSs (cxD P w K mg base N_is_whole "is_whole" (defScope s_is_whole) f cd A outer s H E) (defBody s_is_whole) b_is_whole :=
  (pss_done (psd_ret (pd_and (pd_is rfl T.n_isinstance rfl T.n_int bt_int (pd 0) bt_isinstance) (pd_one (pd_not (pd_is rfl T.n_isinstance rfl T.n_bool bt_bool (pd 0) bt_isinstance))))))
theorem t_is_row {k : Nat} (hk : 0 ≤ k) (T : Tx K mg)  (f : Addr) (cd : Value) (A : Around) (outer : List Env) (s : Shared) (H : Hp) (E : XK) (hG : A.guards = some []) (hr : Room k (A.deeper (envOfC "is_row" (defScope s_is_row) s.heap.objs.size f cd))) :
    PDSs (cxD P w K mg base N_is_row "is_row" (defScope s_is_row) f cd A outer s H E) (defBody s_is_row) b_is_row :=
  (pss_done (psd_ret (pd_and (pd_is rfl T.n_isinstance rfl T.n_tuple bt_tuple (pd 0) bt_isinstance) (pd_one (pd_chain o_le o_le (pd 1) (pd_callB c_len rfl T.n_len bt_len (pda_cons (pd 0) pda_nil)) (pd 2))))))
theorem t_is_fraction {k : Nat} (hk : 1 ≤ k) (T : Tx K mg) (c_is_row : Can P w K mg base 1 "is_row" s_is_row ["value", "low", "high"] sp_is_row) (c_is_whole : Can P w K mg base 1 "is_whole" s_is_whole ["value"] sp_is_whole) (f : Addr) (cd : Value) (A : Around) (outer : List Env) (s : Shared) (H : Hp) (E : XK) (hG : A.guards = some []) (hr : Room k (A.deeper (envOfC "is_fraction" (defScope s_is_fraction) s.heap.objs.size f cd))) :
    PDSs (cxD P w K mg base N_is_fraction "is_fraction" (defScope s_is_fraction) f cd A outer s H E) (defBody s_is_fraction) b_is_fraction :=
  (pss_dcons (psd_if (pdt_w (pdw_or (pdt_not (pdt_val (pd_call c_is_row hG (hr.mono (by omega)) rfl (pda_cons (pd 0) (pda_cons pd_int (pda_cons pd_int pda_nil)))))) (pdw_or (pdt_not (pdt_val (pd_call c_is_whole hG (hr.mono (by omega)) rfl (pda_cons (pd_ix (pd 0) pd_int (fun _ _ => rfl)) pda_nil)))) (pdw_or1 (pdt_not (pdt_val (pd_call c_is_whole hG (hr.mono (by omega)) rfl (pda_cons (pd_ix (pd 0) pd_int (fun _ _ => rfl)) pda_nil)))))))) (pss_done (psd_ret pd_bl)) pss_dnil) (pss_done (psd_ret (pd_and (pd_cmp o_gt (pd_ix (pd 0) pd_int (fun _ _ => rfl)) pd_int (nomark _)) (pd_one (pd_cmp (o_eq hr.units) (pd_callM c_gcd rfl T.m_gcd (pda_cons (pd_ix (pd 0) pd_int (fun _ _ => rfl)) (pda_cons (pd_ix (pd 0) pd_int (fun _ _ => rfl)) pda_nil))) pd_int (nomark _)))))))
theorem t_is_place {k : Nat} (hk : 2 ≤ k) (T : Tx K mg) (c_is_row : Can P w K mg base 1 "is_row" s_is_row ["value", "low", "high"] sp_is_row) (c_is_fraction : Can P w K mg base 2 "is_fraction" s_is_fraction ["value"] sp_is_fraction) (f : Addr) (cd : Value) (A : Around) (outer : List Env) (s : Shared) (H : Hp) (E : XK) (hG : A.guards = some []) (hr : Room k (A.deeper (envOfC "is_place" (defScope s_is_place) s.heap.objs.size f cd))) :
    PDSs (cxD P w K mg base N_is_place "is_place" (defScope s_is_place) f cd A outer s H E) (defBody s_is_place) b_is_place :=
  (pss_done (psd_ret (pd_and (pd_call c_is_row hG (hr.mono (by omega)) rfl (pda_cons (pd 0) (pda_cons pd_int (pda_cons pd_int pda_nil)))) (pd_and (pd_call c_is_fraction hG (hr.mono (by omega)) rfl (pda_cons (pd_ix (pd 0) pd_int (fun _ _ => rfl)) pda_nil)) (pd_one (pd_call c_is_fraction hG (hr.mono (by omega)) rfl (pda_cons (pd_ix (pd 0) pd_int (fun _ _ => rfl)) pda_nil)))))))
theorem t_is_stretch {k : Nat} (hk : 3 ≤ k) (T : Tx K mg) (c_is_row : Can P w K mg base 1 "is_row" s_is_row ["value", "low", "high"] sp_is_row) (c_is_place : Can P w K mg base 3 "is_place" s_is_place ["value"] sp_is_place) (f : Addr) (cd : Value) (A : Around) (outer : List Env) (s : Shared) (H : Hp) (E : XK) (hG : A.guards = some []) (hr : Room k (A.deeper (envOfC "is_stretch" (defScope s_is_stretch) s.heap.objs.size f cd))) :
    PDSs (cxD P w K mg base N_is_stretch "is_stretch" (defScope s_is_stretch) f cd A outer s H E) (defBody s_is_stretch) b_is_stretch :=
  (pss_done (psd_ret (pd_and (pd_call c_is_row hG (hr.mono (by omega)) rfl (pda_cons (pd 0) (pda_cons pd_int (pda_cons pd_int pda_nil)))) (pd_and (pd_call c_is_place hG (hr.mono (by omega)) rfl (pda_cons (pd_ix (pd 0) pd_int (fun _ _ => rfl)) pda_nil)) (pd_and (pd_call c_is_place hG (hr.mono (by omega)) rfl (pda_cons (pd_ix (pd 0) pd_int (fun _ _ => rfl)) pda_nil)) (pd_one (pd_cmp (o_ne hr.units) (pd_ix (pd 0) pd_int (fun _ _ => rfl)) (pd_ix (pd 0) pd_int (fun _ _ => rfl)) (nomark _))))))))
theorem t_check_point {k : Nat} (hk : 3 ≤ k) (T : Tx K mg) (c_is_place : Can P w K mg base 3 "is_place" s_is_place ["value"] sp_is_place) (f : Addr) (cd : Value) (A : Around) (outer : List Env) (s : Shared) (H : Hp) (E : XK) (hG : A.guards = some []) (hr : Room k (A.deeper (envOfC "check_point" (defScope s_check_point) s.heap.objs.size f cd))) :
    PDSs (cxD P w K mg base N_check_point "check_point" (defScope s_check_point) f cd A outer s H E) (defBody s_check_point) b_check_point :=
  (pss_done (psd_if (pdt_not (pdt_val (pd_call c_is_place hG (hr.mono (by omega)) rfl (pda_cons (pd 0) pda_nil)))) (pss_done psd_never) pss_dnil))
theorem t_check_segment {k : Nat} (hk : 4 ≤ k) (T : Tx K mg) (c_is_stretch : Can P w K mg base 4 "is_stretch" s_is_stretch ["value"] sp_is_stretch) (f : Addr) (cd : Value) (A : Around) (outer : List Env) (s : Shared) (H : Hp) (E : XK) (hG : A.guards = some []) (hr : Room k (A.deeper (envOfC "check_segment" (defScope s_check_segment) s.heap.objs.size f cd))) :
    PDSs (cxD P w K mg base N_check_segment "check_segment" (defScope s_check_segment) f cd A outer s H E) (defBody s_check_segment) b_check_segment :=
  (pss_done (psd_if (pdt_not (pdt_val (pd_call c_is_stretch hG (hr.mono (by omega)) rfl (pda_cons (pd 0) pda_nil)))) (pss_done psd_never) pss_dnil))
theorem t_sign {k : Nat} (hk : 0 ≤ k) (T : Tx K mg)  (f : Addr) (cd : Value) (A : Around) (outer : List Env) (s : Shared) (H : Hp) (E : XK) (hG : A.guards = some []) (hr : Room k (A.deeper (envOfC "sign" (defScope s_sign) s.heap.objs.size f cd))) :
    PDSs (cxD P w K mg base N_sign "sign" (defScope s_sign) f cd A outer s H E) (defBody s_sign) b_sign :=
  (pss_dcons (psd_if (pdt_cmp (o_eq hr.units) (pd 0) pd_int (nomark _)) (pss_done (psd_ret pd_int)) pss_dnil) (pss_done (psd_ret (pd_if (pdt_cmp o_gt (pd 0) pd_int (nomark _)) pd_int (pd_neg pd_int)))))
theorem t_is_less {k : Nat} (hk : 0 ≤ k) (T : Tx K mg)  (f : Addr) (cd : Value) (A : Around) (outer : List Env) (s : Shared) (H : Hp) (E : XK) (hG : A.guards = some []) (hr : Room k (A.deeper (envOfC "is_less" (defScope s_is_less) s.heap.objs.size f cd))) :
    PDSs (cxD P w K mg base N_is_less "is_less" (defScope s_is_less) f cd A outer s H E) (defBody s_is_less) b_is_less :=
  (pss_done (psd_ret (pd_cmp o_lt (pd_bin o_mul (pd_ix (pd 0) pd_int (fun _ _ => rfl)) (pd_ix (pd 1) pd_int (fun _ _ => rfl))) (pd_bin o_mul (pd_ix (pd 1) pd_int (fun _ _ => rfl)) (pd_ix (pd 0) pd_int (fun _ _ => rfl))) (nomark _))))
theorem t_is_ahead {k : Nat} (hk : 1 ≤ k) (T : Tx K mg) (c_is_less : Can P w K mg base 1 "is_less" s_is_less ["first", "second"] sp_is_less) (f : Addr) (cd : Value) (A : Around) (outer : List Env) (s : Shared) (H : Hp) (E : XK) (hG : A.guards = some []) (hr : Room k (A.deeper (envOfC "is_ahead" (defScope s_is_ahead) s.heap.objs.size f cd))) :
    PDSs (cxD P w K mg base N_is_ahead "is_ahead" (defScope s_is_ahead) f cd A outer s H E) (defBody s_is_ahead) b_is_ahead :=
  (pss_dcons (psd_if (pdt_cmp (o_ne hr.units) (pd_ix (pd 0) pd_int (fun _ _ => rfl)) (pd_ix (pd 1) pd_int (fun _ _ => rfl)) (nomark _)) (pss_done (psd_ret (pd_call c_is_less hG (hr.mono (by omega)) rfl (pda_cons (pd_ix (pd 0) pd_int (fun _ _ => rfl)) (pda_cons (pd_ix (pd 1) pd_int (fun _ _ => rfl)) pda_nil))))) pss_dnil) (pss_done (psd_ret (pd_call c_is_less hG (hr.mono (by omega)) rfl (pda_cons (pd_ix (pd 0) pd_int (fun _ _ => rfl)) (pda_cons (pd_ix (pd 1) pd_int (fun _ _ => rfl)) pda_nil))))))
theorem t_scaled {k : Nat} (hk : 0 ≤ k) (T : Tx K mg)  (f : Addr) (cd : Value) (A : Around) (outer : List Env) (s : Shared) (H : Hp) (E : XK) (hG : A.guards = some []) (hr : Room k (A.deeper (envOfC "scaled" (defScope s_scaled) s.heap.objs.size f cd))) :
    PDSs (cxD P w K mg base N_scaled "scaled" (defScope s_scaled) f cd A outer s H E) (defBody s_scaled) b_scaled :=
  (pss_dcons (psd_asg (pd 0) (pdg_tup (n := 2) rfl (pdgs_cons (pdg_tup (n := 2) rfl (pdgs_cons (pdg_name (i := 1) sc_scaled.nd rfl (by first | exact .inl rfl | exact .inr rfl)) (pdgs_cons (pdg_name (i := 2) sc_scaled.nd rfl (by first | exact .inl rfl | exact .inr rfl)) pdgs_nil))) (pdgs_cons (pdg_tup (n := 2) rfl (pdgs_cons (pdg_name (i := 3) sc_scaled.nd rfl (by first | exact .inl rfl | exact .inr rfl)) (pdgs_cons (pdg_name (i := 4) sc_scaled.nd rfl (by first | exact .inl rfl | exact .inr rfl)) pdgs_nil))) pdgs_nil)))) (pss_dcons (psd_set (i := 5) sc_scaled.nd rfl (by first | exact .inl rfl | exact .inr rfl) (pd_callM c_lcm rfl T.m_lcm (pda_cons (pd 2) (pda_cons (pd 4) pda_nil)))) (pss_done (psd_ret (pd_tup (pda_cons (pd_bin o_mul (pd 1) (pd_bin o_div (pd 5) (pd 2))) (pda_cons (pd_bin o_mul (pd 3) (pd_bin o_div (pd 5) (pd 4))) (pda_cons (pd 5) pda_nil))))))))
theorem t_crossed {k : Nat} (hk : 0 ≤ k) (T : Tx K mg)  (f : Addr) (cd : Value) (A : Around) (outer : List Env) (s : Shared) (H : Hp) (E : XK) (hG : A.guards = some []) (hr : Room k (A.deeper (envOfC "crossed" (defScope s_crossed) s.heap.objs.size f cd))) :
    PDSs (cxD P w K mg base N_crossed "crossed" (defScope s_crossed) f cd A outer s H E) (defBody s_crossed) b_crossed :=
  (pss_done (psd_ret (pd_tup (pda_cons (pd_bin o_sub (pd_bin o_mul (pd_ix (pd 0) pd_int (fun _ _ => rfl)) (pd_ix (pd 1) pd_int (fun _ _ => rfl))) (pd_bin o_mul (pd_ix (pd 0) pd_int (fun _ _ => rfl)) (pd_ix (pd 1) pd_int (fun _ _ => rfl)))) (pda_cons (pd_bin o_sub (pd_bin o_mul (pd_ix (pd 0) pd_int (fun _ _ => rfl)) (pd_ix (pd 1) pd_int (fun _ _ => rfl))) (pd_bin o_mul (pd_ix (pd 0) pd_int (fun _ _ => rfl)) (pd_ix (pd 1) pd_int (fun _ _ => rfl)))) (pda_cons (pd_bin o_sub (pd_bin o_mul (pd_ix (pd 0) pd_int (fun _ _ => rfl)) (pd_ix (pd 1) pd_int (fun _ _ => rfl))) (pd_bin o_mul (pd_ix (pd 0) pd_int (fun _ _ => rfl)) (pd_ix (pd 1) pd_int (fun _ _ => rfl)))) pda_nil))))))
theorem t_along {k : Nat} (hk : 0 ≤ k) (T : Tx K mg)  (f : Addr) (cd : Value) (A : Around) (outer : List Env) (s : Shared) (H : Hp) (E : XK) (hG : A.guards = some []) (hr : Room k (A.deeper (envOfC "along" (defScope s_along) s.heap.objs.size f cd))) :
    PDSs (cxD P w K mg base N_along "along" (defScope s_along) f cd A outer s H E) (defBody s_along) b_along :=
  (pss_done (psd_ret (pd_bin o_add (pd_bin o_add (pd_bin o_mul (pd_ix (pd 0) pd_int (fun _ _ => rfl)) (pd_ix (pd 1) pd_int (fun _ _ => rfl))) (pd_bin o_mul (pd_ix (pd 0) pd_int (fun _ _ => rfl)) (pd_ix (pd 1) pd_int (fun _ _ => rfl)))) (pd_bin o_mul (pd_ix (pd 0) pd_int (fun _ _ => rfl)) (pd_ix (pd 1) pd_int (fun _ _ => rfl))))))
theorem t_side_of {k : Nat} (hk : 1 ≤ k) (T : Tx K mg) (c_sign : Can P w K mg base 1 "sign" s_sign ["number"] sp_sign) (c_along : Can P w K mg base 1 "along" s_along ["line", "triple"] sp_along) (c_scaled : Can P w K mg base 1 "scaled" s_scaled ["point"] sp_scaled) (c_crossed : Can P w K mg base 1 "crossed" s_crossed ["first", "second"] sp_crossed) (f : Addr) (cd : Value) (A : Around) (outer : List Env) (s : Shared) (H : Hp) (E : XK) (hG : A.guards = some []) (hr : Room k (A.deeper (envOfC "side_of" (defScope s_side_of) s.heap.objs.size f cd))) :
    PDSs (cxD P w K mg base N_side_of "side_of" (defScope s_side_of) f cd A outer s H E) (defBody s_side_of) b_side_of :=
  (pss_done (psd_ret (pd_call c_sign hG (hr.mono (by omega)) rfl (pda_cons (pd_call c_along hG (hr.mono (by omega)) rfl (pda_cons (pd_call c_crossed hG (hr.mono (by omega)) rfl (pda_cons (pd_call c_scaled hG (hr.mono (by omega)) rfl (pda_cons (pd 0) pda_nil)) (pda_cons (pd_call c_scaled hG (hr.mono (by omega)) rfl (pda_cons (pd 1) pda_nil)) pda_nil))) (pda_cons (pd_call c_scaled hG (hr.mono (by omega)) rfl (pda_cons (pd 2) pda_nil)) pda_nil))) pda_nil))))
theorem t_in_order {k : Nat} (hk : 2 ≤ k) (T : Tx K mg) (c_is_ahead : Can P w K mg base 2 "is_ahead" s_is_ahead ["first", "second"] sp_is_ahead) (f : Addr) (cd : Value) (A : Around) (outer : List Env) (s : Shared) (H : Hp) (E : XK) (hG : A.guards = some []) (hr : Room k (A.deeper (envOfC "in_order" (defScope s_in_order) s.heap.objs.size f cd))) :
    PDSs (cxD P w K mg base N_in_order "in_order" (defScope s_in_order) f cd A outer s H E) (defBody s_in_order) b_in_order :=
  (pss_dcons (psd_asg (pd 0) (pdg_tup (n := 2) rfl (pdgs_cons (pdg_name (i := 1) sc_in_order.nd rfl (by first | exact .inl rfl | exact .inr rfl)) (pdgs_cons (pdg_name (i := 2) sc_in_order.nd rfl (by first | exact .inl rfl | exact .inr rfl)) pdgs_nil)))) (pss_done (psd_ret (pd_if (pdt_val (pd_call c_is_ahead hG (hr.mono (by omega)) rfl (pda_cons (pd 2) (pda_cons (pd 1) pda_nil)))) (pd_tup (pda_cons (pd 2) (pda_cons (pd 1) pda_nil))) (pd_tup (pda_cons (pd 1) (pda_cons (pd 2) pda_nil)))))))
theorem t_lies_on {k : Nat} (hk : 3 ≤ k) (T : Tx K mg) (c_side_of : Can P w K mg base 2 "side_of" s_side_of ["first", "second", "third"] sp_side_of) (c_in_order : Can P w K mg base 3 "in_order" s_in_order ["segment"] sp_in_order) (c_is_ahead : Can P w K mg base 2 "is_ahead" s_is_ahead ["first", "second"] sp_is_ahead) (f : Addr) (cd : Value) (A : Around) (outer : List Env) (s : Shared) (H : Hp) (E : XK) (hG : A.guards = some []) (hr : Room k (A.deeper (envOfC "lies_on" (defScope s_lies_on) s.heap.objs.size f cd))) :
    PDSs (cxD P w K mg base N_lies_on "lies_on" (defScope s_lies_on) f cd A outer s H E) (defBody s_lies_on) b_lies_on :=
  (pss_dcons (psd_if (pdt_cmp (o_ne hr.units) (pd_call c_side_of hG (hr.mono (by omega)) rfl (pda_cons (pd_ix (pd 0) pd_int (fun _ _ => rfl)) (pda_cons (pd_ix (pd 0) pd_int (fun _ _ => rfl)) (pda_cons (pd 1) pda_nil)))) pd_int (nomark _)) (pss_done (psd_ret pd_bl)) pss_dnil) (pss_dcons (psd_asg (pd_call c_in_order hG (hr.mono (by omega)) rfl (pda_cons (pd 0) pda_nil)) (pdg_tup (n := 2) rfl (pdgs_cons (pdg_name (i := 2) sc_lies_on.nd rfl (by first | exact .inl rfl | exact .inr rfl)) (pdgs_cons (pdg_name (i := 3) sc_lies_on.nd rfl (by first | exact .inl rfl | exact .inr rfl)) pdgs_nil)))) (pss_done (psd_ret (pd_and (pd_not (pd_call c_is_ahead hG (hr.mono (by omega)) rfl (pda_cons (pd 1) (pda_cons (pd 2) pda_nil)))) (pd_one (pd_not (pd_call c_is_ahead hG (hr.mono (by omega)) rfl (pda_cons (pd 3) (pda_cons (pd 1) pda_nil))))))))))
theorem t_is_point {k : Nat} (hk : 3 ≤ k) (T : Tx K mg) (c_is_place : Can P w K mg base 3 "is_place" s_is_place ["value"] sp_is_place) (f : Addr) (cd : Value) (A : Around) (outer : List Env) (s : Shared) (H : Hp) (E : XK) (hG : A.guards = some []) (hr : Room k (A.deeper (envOfC "is_point" (defScope s_is_point) s.heap.objs.size f cd))) :
    PDSs (cxD P w K mg base N_is_point "is_point" (defScope s_is_point) f cd A outer s H E) (defBody s_is_point) b_is_point :=
  (pss_done (psd_ret (pd_call c_is_place hG (hr.mono (by omega)) rfl (pda_cons (pd 0) pda_nil))))
theorem t_turn_of {k : Nat} (hk : 4 ≤ k) (T : Tx K mg) (c_check_point : Can P w K mg base 4 "check_point" s_check_point ["value"] sp_check_point) (c_side_of : Can P w K mg base 2 "side_of" s_side_of ["first", "second", "third"] sp_side_of) (f : Addr) (cd : Value) (A : Around) (outer : List Env) (s : Shared) (H : Hp) (E : XK) (hG : A.guards = some []) (hr : Room k (A.deeper (envOfC "turn_of" (defScope s_turn_of) s.heap.objs.size f cd))) :
    PDSs (cxD P w K mg base N_turn_of "turn_of" (defScope s_turn_of) f cd A outer s H E) (defBody s_turn_of) b_turn_of :=
  (pss_dcons (psd_expr (pd_call c_check_point hG (hr.mono (by omega)) rfl (pda_cons (pd 0) pda_nil))) (pss_dcons (psd_expr (pd_call c_check_point hG (hr.mono (by omega)) rfl (pda_cons (pd 1) pda_nil))) (pss_dcons (psd_expr (pd_call c_check_point hG (hr.mono (by omega)) rfl (pda_cons (pd 2) pda_nil))) (pss_done (psd_ret (pd_call c_side_of hG (hr.mono (by omega)) rfl (pda_cons (pd 0) (pda_cons (pd 1) (pda_cons (pd 2) pda_nil)))))))))
theorem t_is_on {k : Nat} (hk : 5 ≤ k) (T : Tx K mg) (c_check_segment : Can P w K mg base 5 "check_segment" s_check_segment ["value"] sp_check_segment) (c_check_point : Can P w K mg base 4 "check_point" s_check_point ["value"] sp_check_point) (c_lies_on : Can P w K mg base 4 "lies_on" s_lies_on ["segment", "point"] sp_lies_on) (f : Addr) (cd : Value) (A : Around) (outer : List Env) (s : Shared) (H : Hp) (E : XK) (hG : A.guards = some []) (hr : Room k (A.deeper (envOfC "is_on" (defScope s_is_on) s.heap.objs.size f cd))) :
    PDSs (cxD P w K mg base N_is_on "is_on" (defScope s_is_on) f cd A outer s H E) (defBody s_is_on) b_is_on :=
  (pss_dcons (psd_expr (pd_call c_check_segment hG (hr.mono (by omega)) rfl (pda_cons (pd 0) pda_nil))) (pss_dcons (psd_expr (pd_call c_check_point hG (hr.mono (by omega)) rfl (pda_cons (pd 1) pda_nil))) (pss_done (psd_ret (pd_call c_lies_on hG (hr.mono (by omega)) rfl (pda_cons (pd 0) (pda_cons (pd 1) pda_nil)))))))
theorem t_spring {k : Nat} (hk : 0 ≤ k) (T : Tx K mg)  (f : Addr) (cd : Value) (A : Around) (outer : List Env) (s : Shared) (H : Hp) (E : XK) (hG : A.guards = some []) (hr : Room k (A.deeper (envOfC "_law_spring" (defScope s_spring) s.heap.objs.size f cd))) :
    PDSs (cxD P w K mg base N_spring "_law_spring" (defScope s_spring) f cd A outer s H E) (defBody s_spring) b_spring :=
  (pss_dcons (psd_set (i := 2) sc_spring.nd rfl (by first | exact .inl rfl | exact .inr rfl) (pd_bin o_add pd_int (pd_bin o_mul pd_int (pd 1)))) (pss_dcons (psd_for PassesOwn.never rfl (pdi_seq (pd_sl (pd 0) pdo_none (pdo_some pd_int))) (pdg_name (i := 3) sc_spring.nd rfl (by first | exact .inl rfl | exact .inr rfl)) (pss_done (psd_set (i := 2) sc_spring.nd rfl (by first | exact .inl rfl | exact .inr rfl) (pd_bin o_mod (pd_callTy c_int rfl T.n_int bt_int (pda_cons (pd_bin o_add (pd_bin o_add (pd_bin o_mul (pd 2) pd_int) (pd_bin o_mod (pd_callTy c_int rfl T.n_int bt_int (pda_cons (pd 3) pda_nil)) pd_int)) pd_int) pda_nil)) pd_int)))) (pss_dcons (psd_set (i := 4) sc_spring.nd rfl (by first | exact .inl rfl | exact .inr rfl) (pd_if (pdt_cmp o_lt (pd 1) (pd_callB c_len rfl T.n_len bt_len (pda_cons (pd 0) pda_nil)) (nomark _)) (pd_callTy c_int rfl T.n_int bt_int (pda_cons (pd_ix (pd 0) (pd 1) (fun _ _ => rfl)) pda_nil)) pd_int)) (pss_dcons (psd_set (i := 2) sc_spring.nd rfl (by first | exact .inl rfl | exact .inr rfl) (pd_bin o_mod (pd_callTy c_int rfl T.n_int bt_int (pda_cons (pd_bin o_add (pd_bin o_add (pd_bin o_mul (pd 2) pd_int) (pd_bin o_mul (pd_bin o_mod (pd_callTy c_int rfl T.n_int bt_int (pda_cons (pd 4) pda_nil)) pd_int) pd_int)) pd_int) pda_nil)) pd_int)) (pss_done (psd_ret (pd_lst (pda_cons (pd_if (pdt_w (pdw_or (pdt_cmp o_lt (pd 4) pd_int (nomark _)) (pdw_or1 (pdt_cmp o_ge (pd 4) (pd_bin o_pow pd_int pd_int) (nomark _))))) (pd_callB c_abs rfl T.n_abs bt_abs (pda_cons (pd 4) pda_nil)) pd_int) (pda_cons (pd 2) (pda_cons pd_int pda_nil))))))))))
theorem t_draw {k : Nat} (hk : 0 ≤ k) (T : Tx K mg)  (f : Addr) (cd : Value) (A : Around) (outer : List Env) (s : Shared) (H : Hp) (E : XK) (hG : A.guards = some []) (hr : Room k (A.deeper (envOfC "_law_draw" (defScope s_draw) s.heap.objs.size f cd))) :
    PDSs (cxD P w K mg base N_draw "_law_draw" (defScope s_draw) f cd A outer s H E) (defBody s_draw) b_draw :=
  (pss_dcons (psd_if (pdt_cmp o_gt (pd_ix (pd 0) pd_int (fun _ _ => rfl)) pd_int (nomark _)) (pss_dcons (psd_asg (pd_callB c_divmod rfl T.n_divmod bt_divmod (pda_cons (pd_ix (pd 0) pd_int (fun _ _ => rfl)) (pda_cons (pd 1) pda_nil))) (pdg_tup (n := 2) rfl (pdgs_cons (pdg_sub (pd 0) pd_int) (pdgs_cons (pdg_name (i := 2) sc_draw.nd rfl (by first | exact .inl rfl | exact .inr rfl)) pdgs_nil)))) (pss_done (psd_ret (pd 2)))) pss_dnil) (pss_dcons (psd_asg (pd_bin o_add (pd_ix (pd 0) pd_int (fun _ _ => rfl)) pd_int) (pdg_sub (pd 0) pd_int)) (pss_dcons (psd_set (i := 3) sc_draw.nd rfl (by first | exact .inl rfl | exact .inr rfl) (pd_bin o_mod (pd_callTy c_int rfl T.n_int bt_int (pda_cons (pd_bin o_add (pd_ix (pd 0) pd_int (fun _ _ => rfl)) (pd_bin o_mul pd_int (pd_ix (pd 0) pd_int (fun _ _ => rfl)))) pda_nil)) pd_int)) (pss_dcons (psd_asg (pd_bin o_mod (pd_callTy c_int rfl T.n_int bt_int (pda_cons (pd_bin o_add (pd_bin o_mul (pd 3) (pd_bin o_add (pd_bin o_mod (pd_callTy c_int rfl T.n_int bt_int (pda_cons (pd 3) pda_nil)) pd_int) pd_int)) (pd_bin o_mul pd_int (pd_ix (pd 0) pd_int (fun _ _ => rfl)))) pda_nil)) pd_int) (pdg_sub (pd 0) pd_int)) (pss_done (psd_ret (pd_bin o_mod (pd_callTy c_int rfl T.n_int bt_int (pda_cons (pd_bin o_div (pd_ix (pd 0) pd_int (fun _ _ => rfl)) pd_int) pda_nil)) (pd 1))))))))
theorem t_one_of {k : Nat} (hk : 1 ≤ k) (T : Tx K mg) (c_draw : Can P w K mg base 1 "_law_draw" s_draw ["_law_spring_here", "_law_many"] sp_draw) (f : Addr) (cd : Value) (A : Around) (outer : List Env) (s : Shared) (H : Hp) (E : XK) (hG : A.guards = some []) (hr : Room k (A.deeper (envOfC "_law_one_of" (defScope s_one_of) s.heap.objs.size f cd))) :
    PDSs (cxD P w K mg base N_one_of "_law_one_of" (defScope s_one_of) f cd A outer s H E) (defBody s_one_of) b_one_of :=
  (pss_done (psd_ret (pd_ix (pd 1) (pd_call c_draw hG (hr.mono (by omega)) rfl (pda_cons (pd 0) (pda_cons (pd_callB c_len rfl T.n_len bt_len (pda_cons (pd 1) pda_nil)) pda_nil))) (fun _ _ => rfl))))
theorem t_divisor {k : Nat} (hk : 0 ≤ k) (T : Tx K mg)  (f : Addr) (cd : Value) (A : Around) (outer : List Env) (s : Shared) (H : Hp) (E : XK) (hG : A.guards = some []) (hr : Room k (A.deeper (envOfC "_law_divisor" (defScope s_divisor) s.heap.objs.size f cd))) :
    PDSs (cxD P w K mg base N_divisor "_law_divisor" (defScope s_divisor) f cd A outer s H E) (defBody s_divisor) b_divisor :=
  (pss_dcons (psd_par (i := 2) (j := 3) rfl sc_divisor.nd rfl rfl (by decide) rfl rfl (pda_cons (pd_callB c_abs rfl T.n_abs bt_abs (pda_cons (pd 0) pda_nil)) (pda_cons (pd_callB c_abs rfl T.n_abs bt_abs (pda_cons (pd 1) pda_nil)) pda_nil)) (by rfl)) (pss_dcons (psd_while PassesOwn.never (pdt_cmp (o_ne hr.units) (pd 3) pd_int (nomark _)) (pss_done (psd_par (i := 2) (j := 3) rfl sc_divisor.nd rfl rfl (by decide) rfl rfl (pda_cons (pd 3) (pda_cons (pd_bin o_mod (pd_callTy c_int rfl T.n_int bt_int (pda_cons (pd 2) pda_nil)) (pd 3)) pda_nil)) (by rfl)))) (pss_done (psd_ret (pd 2)))))
theorem t_part {k : Nat} (hk : 1 ≤ k) (T : Tx K mg) (c_divisor : Can P w K mg base 1 "_law_divisor" s_divisor ["_law_one", "_law_two"] sp_divisor) (f : Addr) (cd : Value) (A : Around) (outer : List Env) (s : Shared) (H : Hp) (E : XK) (hG : A.guards = some []) (hr : Room k (A.deeper (envOfC "_law_part" (defScope s_part) s.heap.objs.size f cd))) :
    PDSs (cxD P w K mg base N_part "_law_part" (defScope s_part) f cd A outer s H E) (defBody s_part) b_part :=
  (pss_dcons (psd_set (i := 2) sc_part.nd rfl (by first | exact .inl rfl | exact .inr rfl) (pd_if (pdt_cmp o_gt (pd 1) pd_int (nomark _)) (pd_call c_divisor hG (hr.mono (by omega)) rfl (pda_cons (pd 0) (pda_cons (pd 1) pda_nil))) (pd_bin o_sub pd_int (pd_call c_divisor hG (hr.mono (by omega)) rfl (pda_cons (pd 0) (pda_cons (pd 1) pda_nil)))))) (pss_done (psd_ret (pd_tup (pda_cons (pd_bin o_div (pd 0) (pd 2)) (pda_cons (pd_bin o_div (pd 1) (pd 2)) pda_nil))))))
theorem t_place {k : Nat} (hk : 1 ≤ k) (T : Tx K mg) (c_divisor : Can P w K mg base 1 "_law_divisor" s_divisor ["_law_one", "_law_two"] sp_divisor) (f : Addr) (cd : Value) (A : Around) (outer : List Env) (s : Shared) (H : Hp) (E : XK) (hG : A.guards = some []) (hr : Room k (A.deeper (envOfC "_law_place" (defScope s_place) s.heap.objs.size f cd))) :
    PDSs (cxD P w K mg base N_place "_law_place" (defScope s_place) f cd A outer s H E) (defBody s_place) b_place :=
  (pss_dcons (psd_set (i := 3) sc_place.nd rfl (by first | exact .inl rfl | exact .inr rfl) (pd_if (pdt_cmp o_gt (pd 2) pd_int (nomark _)) (pd_call c_divisor hG (hr.mono (by omega)) rfl (pda_cons (pd_call c_divisor hG (hr.mono (by omega)) rfl (pda_cons (pd 0) (pda_cons (pd 1) pda_nil))) (pda_cons (pd 2) pda_nil))) (pd_bin o_sub pd_int (pd_call c_divisor hG (hr.mono (by omega)) rfl (pda_cons (pd_call c_divisor hG (hr.mono (by omega)) rfl (pda_cons (pd 0) (pda_cons (pd 1) pda_nil))) (pda_cons (pd 2) pda_nil)))))) (pss_done (psd_ret (pd_tup (pda_cons (pd_bin o_div (pd 0) (pd 3)) (pda_cons (pd_bin o_div (pd 1) (pd 3)) (pda_cons (pd_bin o_div (pd 2) (pd 3)) pda_nil)))))))
theorem t_told {k : Nat} (hk : 2 ≤ k) (T : Tx K mg) (c_part : Can P w K mg base 2 "_law_part" s_part ["_law_top", "_law_base"] sp_part) (f : Addr) (cd : Value) (A : Around) (outer : List Env) (s : Shared) (H : Hp) (E : XK) (hG : A.guards = some []) (hr : Room k (A.deeper (envOfC "_law_told" (defScope s_told) s.heap.objs.size f cd))) :
    PDSs (cxD P w K mg base N_told "_law_told" (defScope s_told) f cd A outer s H E) (defBody s_told) b_told :=
  (pss_done (psd_ret (pd_tup (pda_cons (pd_call c_part hG (hr.mono (by omega)) rfl (pda_cons (pd_ix (pd 0) pd_int (fun _ _ => rfl)) (pda_cons (pd_ix (pd 0) pd_int (fun _ _ => rfl)) pda_nil))) (pda_cons (pd_call c_part hG (hr.mono (by omega)) rfl (pda_cons (pd_ix (pd 0) pd_int (fun _ _ => rfl)) (pda_cons (pd_ix (pd 0) pd_int (fun _ _ => rfl)) pda_nil))) pda_nil)))))
theorem t_own {k : Nat} (hk : 2 ≤ k) (T : Tx K mg) (c_place : Can P w K mg base 2 "_law_place" s_place ["_law_x", "_law_y", "_law_w"] sp_place) (f : Addr) (cd : Value) (A : Around) (outer : List Env) (s : Shared) (H : Hp) (E : XK) (hG : A.guards = some []) (hr : Room k (A.deeper (envOfC "_law_own" (defScope s_own) s.heap.objs.size f cd))) :
    PDSs (cxD P w K mg base N_own "_law_own" (defScope s_own) f cd A outer s H E) (defBody s_own) b_own :=
  (pss_dcons (psd_asg (pd 0) (pdg_tup (n := 2) rfl (pdgs_cons (pdg_tup (n := 2) rfl (pdgs_cons (pdg_name (i := 1) sc_own.nd rfl (by first | exact .inl rfl | exact .inr rfl)) (pdgs_cons (pdg_name (i := 2) sc_own.nd rfl (by first | exact .inl rfl | exact .inr rfl)) pdgs_nil))) (pdgs_cons (pdg_tup (n := 2) rfl (pdgs_cons (pdg_name (i := 3) sc_own.nd rfl (by first | exact .inl rfl | exact .inr rfl)) (pdgs_cons (pdg_name (i := 4) sc_own.nd rfl (by first | exact .inl rfl | exact .inr rfl)) pdgs_nil))) pdgs_nil)))) (pss_done (psd_ret (pd_call c_place hG (hr.mono (by omega)) rfl (pda_cons (pd_bin o_mul (pd 1) (pd 4)) (pda_cons (pd_bin o_mul (pd 3) (pd 2)) (pda_cons (pd_bin o_mul (pd 2) (pd 4)) pda_nil)))))))
theorem t_side {k : Nat} (hk : 0 ≤ k) (T : Tx K mg)  (f : Addr) (cd : Value) (A : Around) (outer : List Env) (s : Shared) (H : Hp) (E : XK) (hG : A.guards = some []) (hr : Room k (A.deeper (envOfC "_law_side" (defScope s_side) s.heap.objs.size f cd))) :
    PDSs (cxD P w K mg base N_side "_law_side" (defScope s_side) f cd A outer s H E) (defBody s_side) b_side :=
  (pss_dcons (psd_set (i := 3) sc_side.nd rfl (by first | exact .inl rfl | exact .inr rfl) (pd_bin o_sub (pd_bin o_mul (pd_ix (pd 0) pd_int (fun _ _ => rfl)) (pd_bin o_sub (pd_bin o_mul (pd_ix (pd 1) pd_int (fun _ _ => rfl)) (pd_ix (pd 2) pd_int (fun _ _ => rfl))) (pd_bin o_mul (pd_ix (pd 2) pd_int (fun _ _ => rfl)) (pd_ix (pd 1) pd_int (fun _ _ => rfl))))) (pd_bin o_mul (pd_ix (pd 0) pd_int (fun _ _ => rfl)) (pd_bin o_sub (pd_bin o_mul (pd_ix (pd 1) pd_int (fun _ _ => rfl)) (pd_ix (pd 2) pd_int (fun _ _ => rfl))) (pd_bin o_mul (pd_ix (pd 2) pd_int (fun _ _ => rfl)) (pd_ix (pd 1) pd_int (fun _ _ => rfl))))))) (pss_done (psd_ret (pd_bin o_add (pd 3) (pd_bin o_mul (pd_ix (pd 0) pd_int (fun _ _ => rfl)) (pd_bin o_sub (pd_bin o_mul (pd_ix (pd 1) pd_int (fun _ _ => rfl)) (pd_ix (pd 2) pd_int (fun _ _ => rfl))) (pd_bin o_mul (pd_ix (pd 2) pd_int (fun _ _ => rfl)) (pd_ix (pd 1) pd_int (fun _ _ => rfl)))))))))
theorem t_l_is_less {k : Nat} (hk : 0 ≤ k) (T : Tx K mg)  (f : Addr) (cd : Value) (A : Around) (outer : List Env) (s : Shared) (H : Hp) (E : XK) (hG : A.guards = some []) (hr : Room k (A.deeper (envOfC "_law_is_less" (defScope s_l_is_less) s.heap.objs.size f cd))) :
    PDSs (cxD P w K mg base N_l_is_less "_law_is_less" (defScope s_l_is_less) f cd A outer s H E) (defBody s_l_is_less) b_l_is_less :=
  (pss_dcons (psd_if (pdt_cmp (o_ne hr.units) (pd_bin o_mul (pd_ix (pd 0) pd_int (fun _ _ => rfl)) (pd_ix (pd 1) pd_int (fun _ _ => rfl))) (pd_bin o_mul (pd_ix (pd 1) pd_int (fun _ _ => rfl)) (pd_ix (pd 0) pd_int (fun _ _ => rfl))) (nomark _)) (pss_done (psd_ret (pd_cmp o_lt (pd_bin o_mul (pd_ix (pd 0) pd_int (fun _ _ => rfl)) (pd_ix (pd 1) pd_int (fun _ _ => rfl))) (pd_bin o_mul (pd_ix (pd 1) pd_int (fun _ _ => rfl)) (pd_ix (pd 0) pd_int (fun _ _ => rfl))) (nomark _)))) pss_dnil) (pss_done (psd_ret (pd_cmp o_lt (pd_bin o_mul (pd_ix (pd 0) pd_int (fun _ _ => rfl)) (pd_ix (pd 1) pd_int (fun _ _ => rfl))) (pd_bin o_mul (pd_ix (pd 1) pd_int (fun _ _ => rfl)) (pd_ix (pd 0) pd_int (fun _ _ => rfl))) (nomark _)))))
theorem t_l_lies_on {k : Nat} (hk : 1 ≤ k) (T : Tx K mg) (c_side : Can P w K mg base 1 "_law_side" s_side ["_law_p", "_law_q", "_law_r"] sp_side) (c_l_is_less : Can P w K mg base 1 "_law_is_less" s_l_is_less ["_law_p", "_law_q"] sp_l_is_less) (f : Addr) (cd : Value) (A : Around) (outer : List Env) (s : Shared) (H : Hp) (E : XK) (hG : A.guards = some []) (hr : Room k (A.deeper (envOfC "_law_lies_on" (defScope s_l_lies_on) s.heap.objs.size f cd))) :
    PDSs (cxD P w K mg base N_l_lies_on "_law_lies_on" (defScope s_l_lies_on) f cd A outer s H E) (defBody s_l_lies_on) b_l_lies_on :=
  (pss_dcons (psd_if (pdt_cmp (o_ne hr.units) (pd_call c_side hG (hr.mono (by omega)) rfl (pda_cons (pd 0) (pda_cons (pd 1) (pda_cons (pd 2) pda_nil)))) pd_int (nomark _)) (pss_done (psd_ret pd_bl)) pss_dnil) (pss_dcons (psd_asg (pd_if (pdt_val (pd_call c_l_is_less hG (hr.mono (by omega)) rfl (pda_cons (pd 0) (pda_cons (pd 1) pda_nil)))) (pd_tup (pda_cons (pd 0) (pda_cons (pd 1) pda_nil))) (pd_tup (pda_cons (pd 1) (pda_cons (pd 0) pda_nil)))) (pdg_tup (n := 2) rfl (pdgs_cons (pdg_name (i := 3) sc_l_lies_on.nd rfl (by first | exact .inl rfl | exact .inr rfl)) (pdgs_cons (pdg_name (i := 4) sc_l_lies_on.nd rfl (by first | exact .inl rfl | exact .inr rfl)) pdgs_nil)))) (pss_done (psd_ret (pd_and (pd_not (pd_call c_l_is_less hG (hr.mono (by omega)) rfl (pda_cons (pd 2) (pda_cons (pd 3) pda_nil)))) (pd_one (pd_not (pd_call c_l_is_less hG (hr.mono (by omega)) rfl (pda_cons (pd 4) (pda_cons (pd 2) pda_nil))))))))))
theorem t_odd {k : Nat} (hk : 2 ≤ k) (T : Tx K mg) (c_one_of : Can P w K mg base 2 "_law_one_of" s_one_of ["_law_spring_here", "_law_some"] sp_one_of) (f : Addr) (cd : Value) (A : Around) (outer : List Env) (s : Shared) (H : Hp) (E : XK) (hG : A.guards = some []) (hr : Room k (A.deeper (envOfC "_law_odd" (defScope s_odd) s.heap.objs.size f cd))) :
    PDSs (cxD P w K mg base N_odd "_law_odd" (defScope s_odd) f cd A outer s H E) (defBody s_odd) b_odd :=
  (pss_dcons (psd_asg (pd_tup (pda_cons (pd_tup (pda_cons (pd_tup (pda_cons pd_int (pda_cons pd_int pda_nil))) (pda_cons (pd_tup (pda_cons pd_int (pda_cons pd_int pda_nil))) pda_nil))) (pda_cons (pd_tup (pda_cons (pd_tup (pda_cons pd_int (pda_cons pd_int pda_nil))) (pda_cons (pd_tup (pda_cons pd_int (pda_cons pd_int pda_nil))) pda_nil))) (pda_cons (pd_tup (pda_cons (pd_tup (pda_cons (pd_neg pd_int) (pda_cons pd_int pda_nil))) (pda_cons (pd_tup (pda_cons pd_int (pda_cons pd_int pda_nil))) pda_nil))) pda_nil)))) (pdg_tup (n := 3) rfl (pdgs_cons (pdg_name (i := 1) sc_odd.nd rfl (by first | exact .inl rfl | exact .inr rfl)) (pdgs_cons (pdg_name (i := 2) sc_odd.nd rfl (by first | exact .inl rfl | exact .inr rfl)) (pdgs_cons (pdg_name (i := 3) sc_odd.nd rfl (by first | exact .inl rfl | exact .inr rfl)) pdgs_nil))))) (pss_dcons (psd_set (i := 4) sc_odd.nd rfl (by first | exact .inl rfl | exact .inr rfl) (pd_lstV (pda_cons pd_non (pda_cons pd_bl (pda_cons pd_bl (pda_cons pd_int (pda_cons pd_int (pda_cons (pd_neg pd_int) (pda_cons (pd_bin o_pow pd_int pd_int) (pda_cons pd_str (pda_cons pd_str (pda_cons pd_str (pda_cons pd_str (pda_cons pd_str (pda_cons pd_str (pda_cons pd_str (pda_cons (pd_tup pda_nil) (pda_cons (pd_tup (pda_cons pd_int pda_nil)) (pda_cons (pd_tup (pda_cons pd_int (pda_cons pd_int pda_nil))) (pda_cons (pd_tup (pda_cons pd_int (pda_cons pd_int pda_nil))) (pda_cons (pd_tup (pda_cons pd_int (pda_cons pd_int pda_nil))) (pda_cons (pd_tup (pda_cons pd_int (pda_cons pd_int pda_nil))) (pda_cons (pd_tup (pda_cons pd_int (pda_cons pd_int pda_nil))) (pda_cons (pd_tup (pda_cons pd_int (pda_cons pd_int pda_nil))) (pda_cons (pd_tup (pda_cons pd_int (pda_cons (pd_neg pd_int) pda_nil))) (pda_cons (pd_tup (pda_cons pd_bl (pda_cons pd_int pda_nil))) (pda_cons (pd_tup (pda_cons pd_int (pda_cons pd_bl pda_nil))) (pda_cons (pd_tup (pda_cons pd_str (pda_cons pd_int pda_nil))) (pda_cons (pd_tup (pda_cons pd_non (pda_cons pd_int pda_nil))) (pda_cons (pd 1) (pda_cons (pd 2) (pda_cons (pd 3) (pda_cons (pd_tup (pda_cons (pd 1) (pda_cons (pd 2) pda_nil))) (pda_cons (pd_tup (pda_cons (pd 3) (pda_cons (pd 1) pda_nil))) (pda_cons (pd_tup (pda_cons (pd 1) (pda_cons (pd 1) pda_nil))) (pda_cons (pd_tup (pda_cons (pd 1) (pda_cons (pd 2) (pda_cons (pd 3) pda_nil)))) (pda_cons (pd_tup (pda_cons (pd 2) (pda_cons (pd 3) (pda_cons (pd 2) pda_nil)))) (pda_cons (pd_tup (pda_cons (pd_tup (pda_cons pd_int (pda_cons pd_int pda_nil))) pda_nil)) (pda_cons (pd_tup (pda_cons (pd_tup (pda_cons pd_int (pda_cons pd_int pda_nil))) (pda_cons (pd_tup (pda_cons pd_int (pda_cons pd_int pda_nil))) pda_nil))) (pda_cons (pd_tup (pda_cons (pd_tup (pda_cons pd_int (pda_cons pd_int pda_nil))) (pda_cons (pd_tup (pda_cons pd_int (pda_cons pd_int pda_nil))) (pda_cons (pd_tup (pda_cons pd_int (pda_cons pd_int pda_nil))) pda_nil)))) (pda_cons (pd_tup (pda_cons (pd_lstV (pda_cons pd_int (pda_cons pd_int pda_nil))) (pda_cons (pd_tup (pda_cons pd_int (pda_cons pd_int pda_nil))) pda_nil))) (pda_cons (pd_lstV pda_nil) (pda_cons (pd_lstV (pda_cons pd_int (pda_cons pd_int pda_nil))) (pda_cons (pd_lstV (pda_cons (pd_tup (pda_cons pd_int (pda_cons pd_int pda_nil))) (pda_cons (pd_tup (pda_cons pd_int (pda_cons pd_int pda_nil))) pda_nil))) (pda_cons pd_dict0 (pda_cons pd_dict1 (pda_cons (pd_tup (pda_cons pd_str (pda_cons pd_int pda_nil))) (pda_cons (pd_tup (pda_cons pd_str (pda_cons pd_int pda_nil))) (pda_cons (pd_tup (pda_cons pd_str (pda_cons pd_int pda_nil))) (pda_cons (pd_tup (pda_cons pd_str (pda_cons pd_int pda_nil))) (pda_cons (pd_tup (pda_cons pd_str (pda_cons pd_bl pda_nil))) (pda_cons (pd_tup (pda_cons pd_str (pda_cons (pd_neg pd_int) pda_nil))) (pda_cons (pd_tup (pda_cons pd_str (pda_cons pd_int pda_nil))) (pda_cons (pd_lstV (pda_cons pd_str (pda_cons pd_int pda_nil))) (pda_cons (pd_tup (pda_cons pd_str (pda_cons (pd 1) pda_nil))) (pda_cons (pd_tup (pda_cons pd_str (pda_cons (pd_tup (pda_cons (pd 1) pda_nil)) pda_nil))) (pda_cons (pd_tup (pda_cons pd_str (pda_cons (pd 1) (pda_cons (pd 2) pda_nil)))) (pda_cons (pd_tup (pda_cons pd_str (pda_cons (pd_tup (pda_cons (pd 1) (pda_cons (pd 2) pda_nil))) pda_nil))) (pda_cons (pd_tup (pda_cons pd_str (pda_cons (pd_tup (pda_cons (pd 1) (pda_cons (pd 1) pda_nil))) pda_nil))) (pda_cons (pd_tup (pda_cons pd_str (pda_cons (pd_tup (pda_cons (pd 1) pda_nil)) pda_nil))) (pda_cons (pd_tup (pda_cons pd_str (pda_cons (pd_tup pda_nil) pda_nil))) (pda_cons (pd_tup (pda_cons pd_str (pda_cons (pd_tup (pda_cons (pd 1) (pda_cons (pd 2) (pda_cons (pd 3) pda_nil)))) pda_nil))) (pda_cons (pd_tup (pda_cons pd_str (pda_cons (pd_tup (pda_cons (pd 1) (pda_cons (pd 2) (pda_cons (pd 1) pda_nil)))) pda_nil))) (pda_cons (pd_tup (pda_cons pd_str (pda_cons (pd_tup (pda_cons (pd 1) (pda_cons (pd 2) pda_nil))) pda_nil))) (pda_cons (pd_tup (pda_cons pd_str (pda_cons (pd_lstV (pda_cons (pd 1) (pda_cons (pd 2) (pda_cons (pd 3) pda_nil)))) pda_nil))) (pda_cons (pd_tup (pda_cons pd_str (pda_cons (pd_tup (pda_cons pd_str (pda_cons (pd 1) pda_nil))) pda_nil))) (pda_cons (pd_tup (pda_cons pd_str pda_nil)) (pda_cons (pd_tup (pda_cons pd_str (pda_cons (pd_tup (pda_cons pd_str (pda_cons (pd 1) pda_nil))) (pda_cons (pd_tup (pda_cons pd_str (pda_cons (pd 2) pda_nil))) pda_nil)))) (pda_cons (pd_tup (pda_cons pd_str (pda_cons (pd_tup (pda_cons pd_str (pda_cons (pd 1) pda_nil))) pda_nil))) (pda_cons (pd_tup (pda_cons pd_str (pda_cons (pd_tup (pda_cons pd_str (pda_cons (pd 1) pda_nil))) pda_nil))) (pda_cons (pd_tup (pda_cons pd_str (pda_cons pd_str pda_nil))) (pda_cons (pd_tup (pda_cons pd_str (pda_cons (pd_tup (pda_cons pd_str (pda_cons (pd 2) pda_nil))) (pda_cons (pd_tup (pda_cons pd_str (pda_cons (pd 2) pda_nil))) pda_nil)))) (pda_cons (pd_tup (pda_cons (pd_tup (pda_cons pd_str (pda_cons (pd_tup (pda_cons pd_str (pda_cons (pd 1) pda_nil))) pda_nil))) pda_nil)) (pda_cons (pd_tup (pda_cons (pd_tup (pda_cons pd_str (pda_cons (pd_tup (pda_cons pd_str (pda_cons (pd 1) pda_nil))) pda_nil))) (pda_cons (pd_tup (pda_cons pd_str (pda_cons (pd_tup (pda_cons pd_str (pda_cons (pd 1) pda_nil))) pda_nil))) pda_nil))) (pda_cons (pd_tup (pda_cons (pd_tup (pda_cons pd_str (pda_cons (pd_tup (pda_cons pd_str (pda_cons (pd 1) pda_nil))) pda_nil))) pda_nil)) (pda_cons (pd_tup (pda_cons (pd_tup (pda_cons pd_str (pda_cons (pd 1) pda_nil))) pda_nil)) (pda_cons (pd_tup (pda_cons (pd_tup (pda_cons pd_str (pda_cons (pd_tup (pda_cons pd_str (pda_cons (pd 1) pda_nil))) pda_nil))) (pda_cons (pd_tup (pda_cons pd_str (pda_cons (pd_tup (pda_cons pd_str (pda_cons (pd 2) pda_nil))) pda_nil))) pda_nil))) (pda_cons (pd_tup (pda_cons (pd_tup (pda_cons (pd 1) (pda_cons (pd 2) pda_nil))) (pda_cons (pd_tup (pda_cons (pd 2) (pda_cons (pd 1) pda_nil))) pda_nil))) (pda_cons (pd_tup (pda_cons (pd_tup (pda_cons (pd 1) (pda_cons (pd 1) pda_nil))) pda_nil)) pda_nil))))))))))))))))))))))))))))))))))))))))))))))))))))))))))))))))))))))))))))))) (pss_done (psd_ret (pd_call c_one_of hG (hr.mono (by omega)) rfl (pda_cons (pd 0) (pda_cons (pd 4) pda_nil)))))))
theorem t_bent {k : Nat} (hk : 3 ≤ k) (T : Tx K mg) (c_draw : Can P w K mg base 1 "_law_draw" s_draw ["_law_spring_here", "_law_many"] sp_draw) {sp_self : SpD} (c_self : Can P w K mg base k "_law_bent" s_bent ["_law_spring_here", "_law_thing"] sp_self) (c_odd : Can P w K mg base 3 "_law_odd" s_odd ["_law_spring_here"] sp_odd) (f : Addr) (cd : Value) (A : Around) (outer : List Env) (s : Shared) (H : Hp) (E : XK) (hG : A.guards = some []) (hr : Room k (A.deeper (envOfC "_law_bent" (defScope s_bent) s.heap.objs.size f cd))) :
    PDSs (cxD P w K mg base N_bent "_law_bent" (defScope s_bent) f cd A outer s H E) (defBody s_bent) (b_bent sp_self) :=
  (pss_dcons (psd_if (pdt_w (pdw_and (pdt_val (pd_is rfl T.n_isinstance rfl T.n_tuple bt_tuple (pd 1) bt_isinstance)) (pdw_and (pdt_cmp (o_ne hr.units) (pd 1) (pd_tup pda_nil) (nomark _)) (pdw_and1 (pdt_cmp o_gt (pd_call c_draw hG (hr.mono (by omega)) rfl (pda_cons (pd 0) (pda_cons pd_int pda_nil))) pd_int (nomark _)))))) (pss_dcons (psd_set (i := 2) sc_bent.nd rfl (by first | exact .inl rfl | exact .inr rfl) (pd_call c_draw hG (hr.mono (by omega)) rfl (pda_cons (pd 0) (pda_cons (pd_callB c_len rfl T.n_len bt_len (pda_cons (pd 1) pda_nil)) pda_nil)))) (pss_done (psd_ret (pd_bin o_add (pd_bin o_add (pd_sl (pd 1) pdo_none (pdo_some (pd 2))) (pd_tup (pda_cons (pd_call c_self hG (hr.mono (by omega)) rfl (pda_cons (pd 0) (pda_cons (pd_ix (pd 1) (pd 2) (fun _ _ => rfl)) pda_nil))) pda_nil))) (pd_sl (pd 1) (pdo_some (pd_bin o_add (pd 2) pd_int)) pdo_none))))) pss_dnil) (pss_dcons (psd_set (i := 3) sc_bent.nd rfl (by first | exact .inl rfl | exact .inr rfl) (pd_call c_draw hG (hr.mono (by omega)) rfl (pda_cons (pd 0) (pda_cons pd_int pda_nil)))) (pss_dcons (psd_if (pdt_w (pdw_and (pdt_val (pd_is rfl T.n_isinstance rfl T.n_tuple bt_tuple (pd 1) bt_isinstance)) (pdw_and1 (pdt_cmp o_lt (pd 3) pd_int (nomark _))))) (pss_done (psd_ret (pd_ix (pd_tup (pda_cons (pd_callTy c_listV rfl T.n_list bt_list (pda_cons (pd 1) pda_nil)) (pda_cons (pd_sl (pd 1) pdo_none (pdo_some (pd_neg pd_int))) (pda_cons (pd_bin o_add (pd 1) (pd_sl (pd 1) (pdo_some (pd_neg pd_int)) pdo_none)) (pda_cons (pd_rev (pd 1)) (pda_cons (pd_sl (pd 1) (pdo_some pd_int) pdo_none) (pda_cons (pd_bin o_add (pd_sl (pd 1) pdo_none (pdo_some pd_int)) (pd 1)) (pda_cons (pd_tup (pda_cons (pd 1) pda_nil)) pda_nil)))))))) (pd 3) (fun _ _ => rfl)))) pss_dnil) (pss_dcons (psd_if (pdt_w (pdw_and (pdt_val (pd_is rfl T.n_isinstance rfl T.n_int bt_int (pd 1) bt_isinstance)) (pdw_and1 (pdt_cmp o_lt (pd 3) pd_int (nomark _))))) (pss_done (psd_ret (pd_ix (pd_tup (pda_cons (pd_bin o_add (pd 1) pd_int) (pda_cons (pd_bin o_sub pd_int (pd 1)) (pda_cons (pd_bin o_mul pd_int (pd 1)) (pda_cons (pd_bin o_sub (pd 1) pd_int) (pda_cons (pd_cmp (o_eq hr.units) (pd 1) pd_int (nomark _)) (pda_cons (pd_callTy c_str rfl T.n_str bt_str (pda_cons (pd 1) pda_nil)) pda_nil))))))) (pd 3) (fun _ _ => rfl)))) pss_dnil) (pss_done (psd_ret (pd_call c_odd hG (hr.mono (by omega)) rfl (pda_cons (pd 0) pda_nil))))))))
theorem t_l_is_whole {k : Nat} (hk : 0 ≤ k) (T : Tx K mg)  (f : Addr) (cd : Value) (A : Around) (outer : List Env) (s : Shared) (H : Hp) (E : XK) (hG : A.guards = some []) (hr : Room k (A.deeper (envOfC "_law_is_whole" (defScope s_l_is_whole) s.heap.objs.size f cd))) :
    PDSs (cxD P w K mg base N_l_is_whole "_law_is_whole" (defScope s_l_is_whole) f cd A outer s H E) (defBody s_l_is_whole) b_l_is_whole :=
  (pss_done (psd_ret (pd_and (pd_is rfl T.n_isinstance rfl T.n_int bt_int (pd 0) bt_isinstance) (pd_one (pd_not (pd_is rfl T.n_isinstance rfl T.n_bool bt_bool (pd 0) bt_isinstance))))))
theorem t_is_lot {k : Nat} (hk : 0 ≤ k) (T : Tx K mg)  (f : Addr) (cd : Value) (A : Around) (outer : List Env) (s : Shared) (H : Hp) (E : XK) (hG : A.guards = some []) (hr : Room k (A.deeper (envOfC "_law_is_lot" (defScope s_is_lot) s.heap.objs.size f cd))) :
    PDSs (cxD P w K mg base N_is_lot "_law_is_lot" (defScope s_is_lot) f cd A outer s H E) (defBody s_is_lot) b_is_lot :=
  (pss_done (psd_ret (pd_and (pd_is rfl T.n_isinstance rfl T.n_tuple bt_tuple (pd 0) bt_isinstance) (pd_one (pd_chain o_le o_le (pd 1) (pd_callB c_len rfl T.n_len bt_len (pda_cons (pd 0) pda_nil)) (pd 2))))))
theorem t_l_is_fraction {k : Nat} (hk : 1 ≤ k) (T : Tx K mg) (c_is_lot : Can P w K mg base 1 "_law_is_lot" s_is_lot ["_law_thing", "_law_low", "_law_high"] sp_is_lot) (c_l_is_whole : Can P w K mg base 1 "_law_is_whole" s_l_is_whole ["_law_thing"] sp_l_is_whole) (c_divisor : Can P w K mg base 1 "_law_divisor" s_divisor ["_law_one", "_law_two"] sp_divisor) (f : Addr) (cd : Value) (A : Around) (outer : List Env) (s : Shared) (H : Hp) (E : XK) (hG : A.guards = some []) (hr : Room k (A.deeper (envOfC "_law_is_fraction" (defScope s_l_is_fraction) s.heap.objs.size f cd))) :
    PDSs (cxD P w K mg base N_l_is_fraction "_law_is_fraction" (defScope s_l_is_fraction) f cd A outer s H E) (defBody s_l_is_fraction) b_l_is_fraction :=
  (pss_dcons (psd_if (pdt_w (pdw_or (pdt_not (pdt_val (pd_call c_is_lot hG (hr.mono (by omega)) rfl (pda_cons (pd 0) (pda_cons pd_int (pda_cons pd_int pda_nil)))))) (pdw_or1 (pdt_not (pdt_val (pd_callB (c_all rfl) rfl T.n_all bt_all (pda_cons (pd_lcM hm_val rfl sc_l_is_fraction.nd (pdi_seq (pd 0)) (blkOk_by (N := N_l_is_fraction) (sc := defScope s_l_is_fraction) (by decide +kernel)) (fun _ _ _ _ _ => pg_name (i := 1) sc_l_is_fraction.nd rfl (Or.inl rfl)) (fun _ _ _ _ _ => pdts_nil) (fun _ _ _ _ _ => (pd_call c_l_is_whole hG (hr.mono (by omega)) rfl (pda_cons (pd 1) pda_nil)))) pda_nil))))))) (pss_done (psd_ret pd_bl)) pss_dnil) (pss_done (psd_ret (pd_and (pd_cmp o_gt (pd_ix (pd 0) pd_int (fun _ _ => rfl)) pd_int (nomark _)) (pd_one (pd_cmp (o_eq hr.units) (pd_call c_divisor hG (hr.mono (by omega)) rfl (pda_cons (pd_ix (pd 0) pd_int (fun _ _ => rfl)) (pda_cons (pd_ix (pd 0) pd_int (fun _ _ => rfl)) pda_nil))) pd_int (nomark _)))))))
theorem t_is_told {k : Nat} (hk : 2 ≤ k) (T : Tx K mg) (c_is_lot : Can P w K mg base 1 "_law_is_lot" s_is_lot ["_law_thing", "_law_low", "_law_high"] sp_is_lot) (c_l_is_fraction : Can P w K mg base 2 "_law_is_fraction" s_l_is_fraction ["_law_thing"] sp_l_is_fraction) (f : Addr) (cd : Value) (A : Around) (outer : List Env) (s : Shared) (H : Hp) (E : XK) (hG : A.guards = some []) (hr : Room k (A.deeper (envOfC "_law_is_told" (defScope s_is_told) s.heap.objs.size f cd))) :
    PDSs (cxD P w K mg base N_is_told "_law_is_told" (defScope s_is_told) f cd A outer s H E) (defBody s_is_told) b_is_told :=
  (pss_done (psd_ret (pd_and (pd_call c_is_lot hG (hr.mono (by omega)) rfl (pda_cons (pd 0) (pda_cons pd_int (pda_cons pd_int pda_nil)))) (pd_one (pd_callB (c_all rfl) rfl T.n_all bt_all (pda_cons (pd_lcM hm_val rfl sc_is_told.nd (pdi_seq (pd 0)) (blkOk_by (N := N_is_told) (sc := defScope s_is_told) (by decide +kernel)) (fun _ _ _ _ _ => pg_name (i := 1) sc_is_told.nd rfl (Or.inl rfl)) (fun _ _ _ _ _ => pdts_nil) (fun _ _ _ _ _ => (pd_call c_l_is_fraction hG (hr.mono (by omega)) rfl (pda_cons (pd 1) pda_nil)))) pda_nil))))))
theorem t_number {k : Nat} (hk : 2 ≤ k) (T : Tx K mg) (c_one_of : Can P w K mg base 2 "_law_one_of" s_one_of ["_law_spring_here", "_law_some"] sp_one_of) (c_draw : Can P w K mg base 1 "_law_draw" s_draw ["_law_spring_here", "_law_many"] sp_draw) (c_part : Can P w K mg base 2 "_law_part" s_part ["_law_top", "_law_base"] sp_part) (f : Addr) (cd : Value) (A : Around) (outer : List Env) (s : Shared) (H : Hp) (E : XK) (hG : A.guards = some []) (hr : Room k (A.deeper (envOfC "_law_number" (defScope s_number) s.heap.objs.size f cd))) :
    PDSs (cxD P w K mg base N_number "_law_number" (defScope s_number) f cd A outer s H E) (defBody s_number) b_number :=
  (pss_dcons (psd_par (i := 1) (j := 2) rfl sc_number.nd rfl rfl (by decide) rfl rfl (pda_cons (pd_call c_draw hG (hr.mono (by omega)) rfl (pda_cons (pd 0) (pda_cons pd_int pda_nil))) (pda_cons (pd_call c_one_of hG (hr.mono (by omega)) rfl (pda_cons (pd 0) (pda_cons (pd_tup (pda_cons pd_int (pda_cons pd_int (pda_cons pd_int (pda_cons pd_int (pda_cons pd_int (pda_cons pd_int (pda_cons pd_int pda_nil)))))))) pda_nil))) pda_nil)) (by rfl)) (pss_dcons (psd_set (i := 3) sc_number.nd rfl (by first | exact .inl rfl | exact .inr rfl) (pd_if (pdt_cmp o_lt (pd 1) pd_int (nomark _)) (pd_bin o_sub (pd_call c_draw hG (hr.mono (by omega)) rfl (pda_cons (pd 0) (pda_cons pd_int pda_nil))) pd_int) (pd_bin o_sub (pd_call c_draw hG (hr.mono (by omega)) rfl (pda_cons (pd 0) (pda_cons pd_int pda_nil))) pd_int))) (pss_done (psd_ret (pd_call c_part hG (hr.mono (by omega)) rfl (pda_cons (pd 3) (pda_cons (pd_if (pdt_cmp o_lt (pd 1) pd_int (nomark _)) (pd 2) (pd_bin o_add pd_int (pd_call c_draw hG (hr.mono (by omega)) rfl (pda_cons (pd 0) (pda_cons pd_int pda_nil))))) pda_nil)))))))
theorem t_third {k : Nat} (hk : 3 ≤ k) (T : Tx K mg) (c_draw : Can P w K mg base 1 "_law_draw" s_draw ["_law_spring_here", "_law_many"] sp_draw) (c_own : Can P w K mg base 3 "_law_own" s_own ["_law_told_here"] sp_own) (c_number : Can P w K mg base 3 "_law_number" s_number ["_law_spring_here"] sp_number) (c_one_of : Can P w K mg base 2 "_law_one_of" s_one_of ["_law_spring_here", "_law_some"] sp_one_of) (c_place : Can P w K mg base 2 "_law_place" s_place ["_law_x", "_law_y", "_law_w"] sp_place) (f : Addr) (cd : Value) (A : Around) (outer : List Env) (s : Shared) (H : Hp) (E : XK) (hG : A.guards = some []) (hr : Room k (A.deeper (envOfC "_law_third" (defScope s_third) s.heap.objs.size f cd))) :
    PDSs (cxD P w K mg base N_third "_law_third" (defScope s_third) f cd A outer s H E) (defBody s_third) b_third :=
  (pss_dcons (psd_set (i := 3) sc_third.nd rfl (by first | exact .inl rfl | exact .inr rfl) (pd_call c_draw hG (hr.mono (by omega)) rfl (pda_cons (pd 0) (pda_cons pd_int pda_nil)))) (pss_dcons (psd_if (pdt_cmp (o_eq hr.units) (pd 3) pd_int (nomark _)) (pss_done (psd_ret (pd_call c_own hG (hr.mono (by omega)) rfl (pda_cons (pd_tup (pda_cons (pd_call c_number hG (hr.mono (by omega)) rfl (pda_cons (pd 0) pda_nil)) (pda_cons (pd_call c_number hG (hr.mono (by omega)) rfl (pda_cons (pd 0) pda_nil)) pda_nil))) pda_nil)))) pss_dnil) (pss_dcons (psd_par (i := 4) (j := 5) rfl sc_third.nd rfl rfl (by decide) rfl rfl (pda_cons (pd_call c_one_of hG (hr.mono (by omega)) rfl (pda_cons (pd 0) (pda_cons (pd_tup (pda_cons pd_int (pda_cons pd_int (pda_cons pd_int (pda_cons pd_int (pda_cons pd_int pda_nil)))))) pda_nil))) (pda_cons (pd_bin o_sub (pd_call c_draw hG (hr.mono (by omega)) rfl (pda_cons (pd 0) (pda_cons pd_int pda_nil))) pd_int) pda_nil)) (by rfl)) (pss_dcons (psd_par (i := 6) (j := 7) rfl sc_third.nd rfl rfl (by decide) rfl rfl (pda_cons (pd_bin o_add (pd_bin o_mul (pd_bin o_mul (pd_ix (pd 1) pd_int (fun _ _ => rfl)) (pd_ix (pd 2) pd_int (fun _ _ => rfl))) (pd_bin o_sub (pd 4) (pd 5))) (pd_bin o_mul (pd_bin o_mul (pd_ix (pd 2) pd_int (fun _ _ => rfl)) (pd_ix (pd 1) pd_int (fun _ _ => rfl))) (pd 5))) (pda_cons (pd_bin o_add (pd_bin o_mul (pd_bin o_mul (pd_ix (pd 1) pd_int (fun _ _ => rfl)) (pd_ix (pd 2) pd_int (fun _ _ => rfl))) (pd_bin o_sub (pd 4) (pd 5))) (pd_bin o_mul (pd_bin o_mul (pd_ix (pd 2) pd_int (fun _ _ => rfl)) (pd_ix (pd 1) pd_int (fun _ _ => rfl))) (pd 5))) pda_nil)) (by rfl)) (pss_dcons (psd_par (i := 8) (j := 9) rfl sc_third.nd rfl rfl (by decide) rfl rfl (pda_cons (pd_bin o_mul (pd_bin o_mul (pd 4) (pd_ix (pd 1) pd_int (fun _ _ => rfl))) (pd_ix (pd 2) pd_int (fun _ _ => rfl))) (pda_cons (pd_bin o_add (pd_bin o_pow pd_int pd_int) (pd_bin o_mul pd_int (pd_call c_draw hG (hr.mono (by omega)) rfl (pda_cons (pd 0) (pda_cons pd_int pda_nil))))) pda_nil)) (by rfl)) (pss_dcons (psd_if (pdt_cmp o_lt (pd 3) pd_int (nomark _)) (pss_done (psd_ret (pd_call c_place hG (hr.mono (by omega)) rfl (pda_cons (pd 6) (pda_cons (pd 7) (pda_cons (pd 8) pda_nil)))))) pss_dnil) (pss_dcons (psd_if (pdt_cmp (o_eq hr.units) (pd_call c_draw hG (hr.mono (by omega)) rfl (pda_cons (pd 0) (pda_cons pd_int pda_nil))) pd_int (nomark _)) (pss_done (psd_ret (pd_call c_place hG (hr.mono (by omega)) rfl (pda_cons (pd_bin o_mul (pd 6) (pd 9)) (pda_cons (pd_bin o_add (pd_bin o_mul (pd 7) (pd 9)) (pd 8)) (pda_cons (pd_bin o_mul (pd 8) (pd 9)) pda_nil)))))) pss_dnil) (pss_done (psd_ret (pd_call c_place hG (hr.mono (by omega)) rfl (pda_cons (pd_bin o_sub (pd_bin o_mul (pd 6) (pd 9)) (pd 8)) (pda_cons (pd_bin o_mul (pd 7) (pd 9)) (pda_cons (pd_bin o_mul (pd 8) (pd 9)) pda_nil)))))))))))))
theorem t_l_sign {k : Nat} (hk : 0 ≤ k) (T : Tx K mg)  (f : Addr) (cd : Value) (A : Around) (outer : List Env) (s : Shared) (H : Hp) (E : XK) (hG : A.guards = some []) (hr : Room k (A.deeper (envOfC "_law_sign" (defScope s_l_sign) s.heap.objs.size f cd))) :
    PDSs (cxD P w K mg base N_l_sign "_law_sign" (defScope s_l_sign) f cd A outer s H E) (defBody s_l_sign) b_l_sign :=
  (pss_done (psd_ret (pd_if (pdt_cmp o_gt (pd 0) pd_int (nomark _)) pd_int (pd_if (pdt_cmp (o_eq hr.units) (pd 0) pd_int (nomark _)) pd_int (pd_neg pd_int)))))
theorem t_right {k : Nat} (hk : 6 ≤ k) (T : Tx K mg) (c_number : Can P w K mg base 3 "_law_number" s_number ["_law_spring_here"] sp_number) (c_draw : Can P w K mg base 1 "_law_draw" s_draw ["_law_spring_here", "_law_many"] sp_draw) (c_own : Can P w K mg base 3 "_law_own" s_own ["_law_told_here"] sp_own) (c_third : Can P w K mg base 4 "_law_third" s_third ["_law_spring_here", "_law_p", "_law_q"] sp_third) (c_told : Can P w K mg base 3 "_law_told" s_told ["_law_place_here"] sp_told) (c_l_sign : Can P w K mg base 1 "_law_sign" s_l_sign ["_law_whole"] sp_l_sign) (c_side : Can P w K mg base 1 "_law_side" s_side ["_law_p", "_law_q", "_law_r"] sp_side) (c_turn_of : Can P w K mg base 5 "turn_of" s_turn_of ["point", "other", "third"] sp_turn_of) (c_l_lies_on : Can P w K mg base 2 "_law_lies_on" s_l_lies_on ["_law_p", "_law_q", "_law_r"] sp_l_lies_on) (c_is_on : Can P w K mg base 6 "is_on" s_is_on ["segment", "point"] sp_is_on) (c_odd : Can P w K mg base 3 "_law_odd" s_odd ["_law_spring_here"] sp_odd) (c_bent : Can P w K mg base 6 "_law_bent" s_bent ["_law_spring_here", "_law_thing"] sp_bent) (c_is_point : Can P w K mg base 4 "is_point" s_is_point ["value"] sp_is_point) (c_is_told : Can P w K mg base 3 "_law_is_told" s_is_told ["_law_thing"] sp_is_told) (f : Addr) (cd : Value) (A : Around) (outer : List Env) (s : Shared) (H : Hp) (E : XK) (hG : A.guards = some []) (hr : Room k (A.deeper (envOfC "_law_right" (defScope s_right) s.heap.objs.size f cd))) :
    PDSs (cxD P w K mg base N_right "_law_right" (defScope s_right) f cd A outer s H E) (defBody s_right) b_right :=
  (pss_dcons (psd_par (i := 1) (j := 2) rfl sc_right.nd rfl rfl (by decide) rfl rfl (pda_cons (pd_tup (pda_cons (pd_call c_number hG (hr.mono (by omega)) rfl (pda_cons (pd 0) pda_nil)) (pda_cons (pd_call c_number hG (hr.mono (by omega)) rfl (pda_cons (pd 0) pda_nil)) pda_nil))) (pda_cons (pd_tup (pda_cons (pd_call c_number hG (hr.mono (by omega)) rfl (pda_cons (pd 0) pda_nil)) (pda_cons (pd_call c_number hG (hr.mono (by omega)) rfl (pda_cons (pd 0) pda_nil)) pda_nil))) pda_nil)) (by rfl)) (pss_dcons (psd_if (pdt_cmp (o_eq hr.units) (pd_call c_draw hG (hr.mono (by omega)) rfl (pda_cons (pd 0) (pda_cons pd_int pda_nil))) pd_int (nomark _)) (pss_done (psd_set (i := 2) sc_right.nd rfl (by first | exact .inl rfl | exact .inr rfl) (pd 1))) (pss_done (psd_if (pdt_cmp (o_eq hr.units) (pd_call c_draw hG (hr.mono (by omega)) rfl (pda_cons (pd 0) (pda_cons pd_int pda_nil))) pd_int (nomark _)) (pss_done (psd_set (i := 2) sc_right.nd rfl (by first | exact .inl rfl | exact .inr rfl) (pd_if (pdt_cmp (o_eq hr.units) (pd_call c_draw hG (hr.mono (by omega)) rfl (pda_cons (pd 0) (pda_cons pd_int pda_nil))) pd_int (nomark _)) (pd_tup (pda_cons (pd_ix (pd 1) pd_int (fun _ _ => rfl)) (pda_cons (pd_ix (pd 2) pd_int (fun _ _ => rfl)) pda_nil))) (pd_tup (pda_cons (pd_ix (pd 2) pd_int (fun _ _ => rfl)) (pda_cons (pd_ix (pd 1) pd_int (fun _ _ => rfl)) pda_nil)))))) pss_dnil))) (pss_dcons (psd_par (i := 3) (j := 4) rfl sc_right.nd rfl rfl (by decide) rfl rfl (pda_cons (pd_call c_own hG (hr.mono (by omega)) rfl (pda_cons (pd 1) pda_nil)) (pda_cons (pd_call c_own hG (hr.mono (by omega)) rfl (pda_cons (pd 2) pda_nil)) pda_nil)) (by rfl)) (pss_dcons (psd_set (i := 5) sc_right.nd rfl (by first | exact .inl rfl | exact .inr rfl) (pd_call c_third hG (hr.mono (by omega)) rfl (pda_cons (pd 0) (pda_cons (pd 3) (pda_cons (pd 4) pda_nil))))) (pss_dcons (psd_set (i := 6) sc_right.nd rfl (by first | exact .inl rfl | exact .inr rfl) (pd_call c_told hG (hr.mono (by omega)) rfl (pda_cons (pd 5) pda_nil))) (pss_dcons (psd_set (i := 7) sc_right.nd rfl (by first | exact .inl rfl | exact .inr rfl) (pd_call c_l_sign hG (hr.mono (by omega)) rfl (pda_cons (pd_call c_side hG (hr.mono (by omega)) rfl (pda_cons (pd 3) (pda_cons (pd 4) (pda_cons (pd 5) pda_nil)))) pda_nil))) (pss_dcons (psd_set (i := 8) sc_right.nd rfl (by first | exact .inl rfl | exact .inr rfl) (pd_lstV (pda_cons (pd_call c_turn_of hG (hr.mono (by omega)) rfl (pda_cons (pd 1) (pda_cons (pd 2) (pda_cons (pd 6) pda_nil)))) (pda_cons (pd_call c_turn_of hG (hr.mono (by omega)) rfl (pda_cons (pd 2) (pda_cons (pd 6) (pda_cons (pd 1) pda_nil)))) (pda_cons (pd_call c_turn_of hG (hr.mono (by omega)) rfl (pda_cons (pd 6) (pda_cons (pd 1) (pda_cons (pd 2) pda_nil)))) (pda_cons (pd_callK (ks := ["third", "point", "other"]) c_turn_of hG (hr.mono (by omega)) (by rfl) [1, 2, 0] (fun _ _ _ _ _ _ ws hl => match ws, hl with | [_, _, _], _ => rfl) (pdk_cons (pd 6) (pdk_cons (pd 1) (pdk_cons (pd 2) pdk_nil))) (hlen := fun e s Q h => by simpa [dCons, dNil] using h)) pda_nil)))))) (pss_dcons (psd_set (i := 8) sc_right.nd rfl (by first | exact .inl rfl | exact .inr rfl) (pd_bin o_add (pd 8) (pd_lstV (pda_cons (pd_call c_turn_of hG (hr.mono (by omega)) rfl (pda_cons (pd 2) (pda_cons (pd 1) (pda_cons (pd 6) pda_nil)))) (pda_cons (pd_call c_turn_of hG (hr.mono (by omega)) rfl (pda_cons (pd 1) (pda_cons (pd 6) (pda_cons (pd 2) pda_nil)))) (pda_cons (pd_callK (ks := ["point", "other", "third"]) c_turn_of hG (hr.mono (by omega)) (by rfl) [0, 1, 2] (fun _ _ _ _ _ _ ws hl => match ws, hl with | [_, _, _], _ => rfl) (pdk_cons (pd 6) (pdk_cons (pd 2) (pdk_cons (pd 1) pdk_nil))) (hlen := fun e s Q h => by simpa [dCons, dNil] using h)) pda_nil)))))) (pss_dcons (psd_if (pdt_cmp (o_ne hr.units) (pd_callB (c_repr hG (u65 hr)) rfl T.n_repr bt_repr (pda_cons (pd 8) pda_nil)) (pd_callB (c_repr hG (u65 hr)) rfl T.n_repr bt_repr (pda_cons (pd_lstV (pda_cons (pd 7) (pda_cons (pd 7) (pda_cons (pd 7) (pda_cons (pd 7) (pda_cons (pd_bin o_sub pd_int (pd 7)) (pda_cons (pd_bin o_sub pd_int (pd 7)) (pda_cons (pd_bin o_sub pd_int (pd 7)) pda_nil)))))))) pda_nil)) (nomark _)) (pss_done (psd_ret pd_bl)) pss_dnil) (pss_dcons (psd_if (pdt_cmp (o_ne hr.units) (pd_callB (c_repr hG (u65 hr)) rfl T.n_repr bt_repr (pda_cons (pd_lstV (pda_cons (pd_call c_turn_of hG (hr.mono (by omega)) rfl (pda_cons (pd 1) (pda_cons (pd 1) (pda_cons (pd 6) pda_nil)))) (pda_cons (pd_call c_turn_of hG (hr.mono (by omega)) rfl (pda_cons (pd 1) (pda_cons (pd 6) (pda_cons (pd 6) pda_nil)))) (pda_cons (pd_call c_turn_of hG (hr.mono (by omega)) rfl (pda_cons (pd 6) (pda_cons (pd 1) (pda_cons (pd 6) pda_nil)))) pda_nil)))) pda_nil)) (pd_callB (c_repr hG (u65 hr)) rfl T.n_repr bt_repr (pda_cons (pd_lstV (pda_cons pd_int (pda_cons pd_int (pda_cons pd_int pda_nil)))) pda_nil)) (nomark _)) (pss_done (psd_ret pd_bl)) pss_dnil) (pss_dcons (psd_if (pdt_cmp (o_ne hr.units) (pd 1) (pd 2) (nomark _)) (pss_dcons (psd_set (i := 9) sc_right.nd rfl (by first | exact .inl rfl | exact .inr rfl) (pd_call c_l_lies_on hG (hr.mono (by omega)) rfl (pda_cons (pd 3) (pda_cons (pd 4) (pda_cons (pd 5) pda_nil))))) (pss_dcons (psd_set (i := 10) sc_right.nd rfl (by first | exact .inl rfl | exact .inr rfl) (pd_tup (pda_cons (pd 1) (pda_cons (pd 2) pda_nil)))) (pss_dcons (psd_set (i := 8) sc_right.nd rfl (by first | exact .inl rfl | exact .inr rfl) (pd_lstV (pda_cons (pd_call c_is_on hG (hr.mono (by omega)) rfl (pda_cons (pd 10) (pda_cons (pd 6) pda_nil))) (pda_cons (pd_call c_is_on hG (hr.mono (by omega)) rfl (pda_cons (pd_rev (pd 10)) (pda_cons (pd 6) pda_nil))) (pda_cons (pd_callK (ks := ["point", "segment"]) c_is_on hG (hr.mono (by omega)) (by rfl) [1, 0] (fun _ _ _ _ _ _ ws hl => match ws, hl with | [_, _], _ => rfl) (pdk_cons (pd 6) (pdk_cons (pd 10) pdk_nil)) (hlen := fun e s Q h => by simpa [dCons, dNil] using h)) (pda_cons (pd_call c_is_on hG (hr.mono (by omega)) rfl (pda_cons (pd 10) (pda_cons (pd 2) pda_nil))) pda_nil)))))) (pss_done (psd_if (pdt_cmp (o_ne hr.units) (pd_callB (c_repr hG (u65 hr)) rfl T.n_repr bt_repr (pda_cons (pd 8) pda_nil)) (pd_callB (c_repr hG (u65 hr)) rfl T.n_repr bt_repr (pda_cons (pd_lstV (pda_cons (pd 9) (pda_cons (pd 9) (pda_cons (pd 9) (pda_cons pd_bl pda_nil))))) pda_nil)) (nomark _)) (pss_done (psd_ret pd_bl)) pss_dnil))))) pss_dnil) (pss_dcons (psd_set (i := 11) sc_right.nd rfl (by first | exact .inl rfl | exact .inr rfl) (pd_lst (pda_cons (pd 1) (pda_cons (pd 6) (pda_cons (pd_call c_bent hG (hr.mono (by omega)) rfl (pda_cons (pd 0) (pda_cons (pd 2) pda_nil))) (pda_cons (pd_call c_bent hG (hr.mono (by omega)) rfl (pda_cons (pd 0) (pda_cons (pd 6) pda_nil))) (pda_cons (pd_call c_odd hG (hr.mono (by omega)) rfl (pda_cons (pd 0) pda_nil)) (pda_cons (pd_ix (pd 1) pd_int (fun _ _ => rfl)) pda_nil)))))))) (pss_dcons (psd_expr (pd_append (pd 11) (pd_tup (pda_cons (pd_ix (pd 1) pd_int (fun _ _ => rfl)) (pda_cons (pd_call c_odd hG (hr.mono (by omega)) rfl (pda_cons (pd 0) pda_nil)) pda_nil))))) (pss_dcons (psd_if (pdt_cmp (o_ne hr.units) (pd_callB (c_repr hG (u65 hr)) rfl T.n_repr bt_repr (pda_cons (pd_callK (ks := ["value"]) c_is_point hG (hr.mono (by omega)) (by rfl) [0] (fun _ _ _ _ _ _ ws hl => match ws, hl with | [_], _ => rfl) (pdk_cons (pd_ix (pd 11) pd_int (fun _ _ => rfl)) pdk_nil) (hlen := fun e s Q h => by simpa [dCons, dNil] using h)) pda_nil)) (pd_callB (c_repr hG (u65 hr)) rfl T.n_repr bt_repr (pda_cons (pd_call c_is_told hG (hr.mono (by omega)) rfl (pda_cons (pd_ix (pd 11) pd_int (fun _ _ => rfl)) pda_nil)) pda_nil)) (nomark _)) (pss_done (psd_ret pd_bl)) pss_dnil) (pss_done (psd_ret (pd_cmp (o_eq hr.units) (pd_callB (c_repr hG (u65 hr)) rfl T.n_repr bt_repr (pda_cons (pd_lcM hm_val rfl sc_right.nd (pdi_seq (pd 11)) (blkOk_by (N := N_right) (sc := defScope s_right) (by decide +kernel)) (fun _ _ _ _ _ => pg_name (i := 12) sc_right.nd rfl (Or.inl rfl)) (fun _ _ _ _ _ => pdts_nil) (fun _ _ _ _ _ => (pd_call c_is_point hG (hr.mono (by omega)) rfl (pda_cons (pd 12) pda_nil)))) pda_nil)) (pd_callB (c_repr hG (u65 hr)) rfl T.n_repr bt_repr (pda_cons (pd_lcM hm_val rfl sc_right.nd (pdi_seq (pd 11)) (blkOk_by (N := N_right) (sc := defScope s_right) (by decide +kernel)) (fun _ _ _ _ _ => pg_name (i := 12) sc_right.nd rfl (Or.inl rfl)) (fun _ _ _ _ _ => pdts_nil) (fun _ _ _ _ _ => (pd_call c_is_told hG (hr.mono (by omega)) rfl (pda_cons (pd 12) pda_nil)))) pda_nil)) (nomark _))))))))))))))))))
theorem t_law {k : Nat} (hk : 7 ≤ k) (T : Tx K mg) (c_right : Can P w K mg base 7 "_law_right" s_right ["_law_spring_here"] sp_right) (c_spring : Can P w K mg base 1 "_law_spring" s_spring ["_law_script", "_law_turn"] sp_spring) (f : Addr) (cd : Value) (A : Around) (outer : List Env) (s : Shared) (H : Hp) (E : XK) (hG : A.guards = some []) (hr : Room k (A.deeper (envOfC "law" (defScope s_law) s.heap.objs.size f cd))) :
    PDSs (cxD P w K mg base N_law "law" (defScope s_law) f cd A outer s H E) (defBody s_law) b_law :=
  (pss_done (psd_ret (pd_callB (c_all rfl) rfl T.n_all bt_all (pda_cons (pd_lcM hm_val rfl sc_law.nd (pdi_rng1 rfl T.n_range (pda_cons (pd_callB (c_max rfl) rfl T.n_max bt_max (pda_cons pd_int (pda_cons (pd_callB (c_min rfl) rfl T.n_min bt_min (pda_cons (pd_callB c_len rfl T.n_len bt_len (pda_cons (pd 0) pda_nil)) (pda_cons pd_int pda_nil))) pda_nil))) pda_nil)) (blkOk_by (N := N_law) (sc := defScope s_law) (by decide +kernel)) (fun _ _ _ _ _ => pg_name (i := 1) sc_law.nd rfl (Or.inl rfl)) (fun _ _ _ _ _ => pdts_nil) (fun _ _ _ _ _ => (pd_call c_right hG (hr.mono (by omega)) rfl (pda_cons (pd_call c_spring hG (hr.mono (by omega)) rfl (pda_cons (pd 0) (pda_cons (pd 1) pda_nil))) pda_nil)))) pda_nil))))
end
end K02
namespace K02
open PySem PySem.Spec PyProof.Rows L2 DL
section
variable {P : Program} {w : World} {K : PySem.W.Frag} {mg : Str → Option Value} {base : Heap}
theorem can_none {x : Str} {st : Stmt} {ps : List Str} {k : Nat} (F : Has K mg x st)
    (bind : ∀ (kV doc pm : Value) (an : Option Addr) (cdv ct : Value) (us : List Value), us.length = ps.length → bindArgs (PySem.W.fnOf x x (defArgs st) (defBody st) (defScope st) .none kV doc pm an cdv ct) ⟨us, []⟩ = pure (ps.zip us)) : Can P w K mg base k x st ps (fun _ _ _ => False) := by
  obtain ⟨f, fd, hm, F⟩ := F.ex
  exact ⟨f, fd, ⟨fun vs H Q E ⟨_, _, _, _, _, _, h, _⟩ => h.elim, fun A outer s H args us vs Q E _ _ _ _ _ ⟨_, _, _, _, _, _, h, _⟩ => h.elim⟩, hm, F, F.binds bind⟩
theorem c_is_whole (T : Tx K mg) : Can P w K mg base 1 "is_whole" s_is_whole ["value"] sp_is_whole :=
  can_of T.h_is_whole sc_is_whole (fun ds s Q h => by
    unfold sp_is_whole at h
    split at h <;> first | rfl | exact h.elim) (fun _ _ _ _ _ _ us hl => match us, hl with | [_], _ => rfl) (fun f cd A outer s H E hG hr => t_is_whole (k := 0) (by omega) T  f cd A outer s H E hG hr) r_is_whole
theorem c_is_row (T : Tx K mg) : Can P w K mg base 1 "is_row" s_is_row ["value", "low", "high"] sp_is_row :=
  can_of T.h_is_row sc_is_row (fun ds s Q h => by
    unfold sp_is_row at h
    split at h <;> first | rfl | exact h.elim) (fun _ _ _ _ _ _ us hl => match us, hl with | [_, _, _], _ => rfl) (fun f cd A outer s H E hG hr => t_is_row (k := 0) (by omega) T  f cd A outer s H E hG hr) r_is_row
theorem c_is_fraction (T : Tx K mg) : Can P w K mg base 2 "is_fraction" s_is_fraction ["value"] sp_is_fraction :=
  can_of T.h_is_fraction sc_is_fraction (fun ds s Q h => by
    unfold sp_is_fraction at h
    split at h <;> first | rfl | exact h.elim) (fun _ _ _ _ _ _ us hl => match us, hl with | [_], _ => rfl) (fun f cd A outer s H E hG hr => t_is_fraction (k := 1) (by omega) T (c_is_row T) (c_is_whole T) f cd A outer s H E hG hr) r_is_fraction
theorem c_is_place (T : Tx K mg) : Can P w K mg base 3 "is_place" s_is_place ["value"] sp_is_place :=
  can_of T.h_is_place sc_is_place (fun ds s Q h => by
    unfold sp_is_place at h
    split at h <;> first | rfl | exact h.elim) (fun _ _ _ _ _ _ us hl => match us, hl with | [_], _ => rfl) (fun f cd A outer s H E hG hr => t_is_place (k := 2) (by omega) T (c_is_row T) (c_is_fraction T) f cd A outer s H E hG hr) r_is_place
theorem c_is_stretch (T : Tx K mg) : Can P w K mg base 4 "is_stretch" s_is_stretch ["value"] sp_is_stretch :=
  can_of T.h_is_stretch sc_is_stretch (fun ds s Q h => by
    obtain ⟨_, _, rfl, _⟩ := h
    rfl) (fun _ _ _ _ _ _ us hl => match us, hl with | [_], _ => rfl) (fun f cd A outer s H E hG hr => t_is_stretch (k := 3) (by omega) T (c_is_row T) (c_is_place T) f cd A outer s H E hG hr) r_is_stretch
theorem c_check_point (T : Tx K mg) : Can P w K mg base 4 "check_point" s_check_point ["value"] sp_check_point :=
  can_of T.h_check_point sc_check_point (fun ds s Q h => by
    obtain ⟨_, rfl, _⟩ := h
    rfl) (fun _ _ _ _ _ _ us hl => match us, hl with | [_], _ => rfl) (fun f cd A outer s H E hG hr => t_check_point (k := 3) (by omega) T (c_is_place T) f cd A outer s H E hG hr) r_check_point
theorem c_check_segment (T : Tx K mg) : Can P w K mg base 5 "check_segment" s_check_segment ["value"] sp_check_segment :=
  can_of T.h_check_segment sc_check_segment (fun ds s Q h => by
    obtain ⟨_, _, rfl, _⟩ := h
    rfl) (fun _ _ _ _ _ _ us hl => match us, hl with | [_], _ => rfl) (fun f cd A outer s H E hG hr => t_check_segment (k := 4) (by omega) T (c_is_stretch T) f cd A outer s H E hG hr) r_check_segment
theorem c_sign (T : Tx K mg) : Can P w K mg base 1 "sign" s_sign ["number"] sp_sign :=
  can_of T.h_sign sc_sign (fun ds s Q h => by
    unfold sp_sign sp_l_sign at h
    split at h <;> first | rfl | exact h.elim) (fun _ _ _ _ _ _ us hl => match us, hl with | [_], _ => rfl) (fun f cd A outer s H E hG hr => t_sign (k := 0) (by omega) T  f cd A outer s H E hG hr) r_sign
theorem c_is_less (T : Tx K mg) : Can P w K mg base 1 "is_less" s_is_less ["first", "second"] sp_is_less :=
  can_of T.h_is_less sc_is_less (fun ds s Q h => by
    unfold sp_is_less at h
    split at h <;> first | rfl | exact h.elim) (fun _ _ _ _ _ _ us hl => match us, hl with | [_, _], _ => rfl) (fun f cd A outer s H E hG hr => t_is_less (k := 0) (by omega) T  f cd A outer s H E hG hr) r_is_less
theorem c_is_ahead (T : Tx K mg) : Can P w K mg base 2 "is_ahead" s_is_ahead ["first", "second"] sp_is_ahead :=
  can_of T.h_is_ahead sc_is_ahead (fun ds s Q h => by
    obtain ⟨_, _, rfl, _⟩ := h
    rfl) (fun _ _ _ _ _ _ us hl => match us, hl with | [_, _], _ => rfl) (fun f cd A outer s H E hG hr => t_is_ahead (k := 1) (by omega) T (c_is_less T) f cd A outer s H E hG hr) r_is_ahead
theorem c_scaled (T : Tx K mg) : Can P w K mg base 1 "scaled" s_scaled ["point"] sp_scaled :=
  can_of T.h_scaled sc_scaled (fun ds s Q h => by
    unfold sp_scaled at h
    split at h <;> first | rfl | exact h.elim) (fun _ _ _ _ _ _ us hl => match us, hl with | [_], _ => rfl) (fun f cd A outer s H E hG hr => t_scaled (k := 0) (by omega) T  f cd A outer s H E hG hr) r_scaled
theorem c_crossed (T : Tx K mg) : Can P w K mg base 1 "crossed" s_crossed ["first", "second"] sp_crossed :=
  can_of T.h_crossed sc_crossed (fun ds s Q h => by
    unfold sp_crossed at h
    split at h <;> first | rfl | exact h.elim) (fun _ _ _ _ _ _ us hl => match us, hl with | [_, _], _ => rfl) (fun f cd A outer s H E hG hr => t_crossed (k := 0) (by omega) T  f cd A outer s H E hG hr) r_crossed
theorem c_along (T : Tx K mg) : Can P w K mg base 1 "along" s_along ["line", "triple"] sp_along :=
  can_of T.h_along sc_along (fun ds s Q h => by
    unfold sp_along at h
    split at h <;> first | rfl | exact h.elim) (fun _ _ _ _ _ _ us hl => match us, hl with | [_, _], _ => rfl) (fun f cd A outer s H E hG hr => t_along (k := 0) (by omega) T  f cd A outer s H E hG hr) r_along
theorem c_side_of (T : Tx K mg) : Can P w K mg base 2 "side_of" s_side_of ["first", "second", "third"] sp_side_of :=
  can_of T.h_side_of sc_side_of (fun ds s Q h => by
    obtain ⟨_, _, _, rfl, _⟩ := h
    rfl) (fun _ _ _ _ _ _ us hl => match us, hl with | [_, _, _], _ => rfl) (fun f cd A outer s H E hG hr => t_side_of (k := 1) (by omega) T (c_sign T) (c_along T) (c_scaled T) (c_crossed T) f cd A outer s H E hG hr) r_side_of
theorem c_in_order (T : Tx K mg) : Can P w K mg base 3 "in_order" s_in_order ["segment"] sp_in_order :=
  can_of T.h_in_order sc_in_order (fun ds s Q h => by
    obtain ⟨_, _, rfl, _⟩ := h
    rfl) (fun _ _ _ _ _ _ us hl => match us, hl with | [_], _ => rfl) (fun f cd A outer s H E hG hr => t_in_order (k := 2) (by omega) T (c_is_ahead T) f cd A outer s H E hG hr) r_in_order
theorem c_lies_on (T : Tx K mg) : Can P w K mg base 4 "lies_on" s_lies_on ["segment", "point"] sp_lies_on :=
  can_of T.h_lies_on sc_lies_on (fun ds s Q h => by
    obtain ⟨_, _, _, rfl, _⟩ := h
    rfl) (fun _ _ _ _ _ _ us hl => match us, hl with | [_, _], _ => rfl) (fun f cd A outer s H E hG hr => t_lies_on (k := 3) (by omega) T (c_side_of T) (c_in_order T) (c_is_ahead T) f cd A outer s H E hG hr) r_lies_on
theorem c_is_point (T : Tx K mg) : Can P w K mg base 4 "is_point" s_is_point ["value"] sp_is_point :=
  can_of T.h_is_point sc_is_point (fun ds s Q h => by
    unfold sp_is_point sp_is_place at h
    split at h <;> first | rfl | exact h.elim) (fun _ _ _ _ _ _ us hl => match us, hl with | [_], _ => rfl) (fun f cd A outer s H E hG hr => t_is_point (k := 3) (by omega) T (c_is_place T) f cd A outer s H E hG hr) r_is_point
theorem c_turn_of (T : Tx K mg) : Can P w K mg base 5 "turn_of" s_turn_of ["point", "other", "third"] sp_turn_of :=
  can_of T.h_turn_of sc_turn_of (fun ds s Q h => by
    obtain ⟨_, _, _, rfl, _⟩ := h
    rfl) (fun _ _ _ _ _ _ us hl => match us, hl with | [_, _, _], _ => rfl) (fun f cd A outer s H E hG hr => t_turn_of (k := 4) (by omega) T (c_check_point T) (c_side_of T) f cd A outer s H E hG hr) r_turn_of
theorem c_is_on (T : Tx K mg) : Can P w K mg base 6 "is_on" s_is_on ["segment", "point"] sp_is_on :=
  can_of T.h_is_on sc_is_on (fun ds s Q h => by
    obtain ⟨_, _, _, rfl, _⟩ := h
    rfl) (fun _ _ _ _ _ _ us hl => match us, hl with | [_, _], _ => rfl) (fun f cd A outer s H E hG hr => t_is_on (k := 5) (by omega) T (c_check_segment T) (c_check_point T) (c_lies_on T) f cd A outer s H E hG hr) r_is_on
theorem c_spring (T : Tx K mg) : Can P w K mg base 1 "_law_spring" s_spring ["_law_script", "_law_turn"] sp_spring :=
  can_of T.h_spring sc_spring (fun ds s Q h => by
    unfold sp_spring at h
    split at h <;> first | rfl | exact h.elim) (fun _ _ _ _ _ _ us hl => match us, hl with | [_, _], _ => rfl) (fun f cd A outer s H E hG hr => t_spring (k := 0) (by omega) T  f cd A outer s H E hG hr) r_spring
theorem c_draw (T : Tx K mg) : Can P w K mg base 1 "_law_draw" s_draw ["_law_spring_here", "_law_many"] sp_draw :=
  can_of T.h_draw sc_draw (fun ds s Q h => by
    unfold sp_draw at h
    split at h <;> first | rfl | exact h.elim) (fun _ _ _ _ _ _ us hl => match us, hl with | [_, _], _ => rfl) (fun f cd A outer s H E hG hr => t_draw (k := 0) (by omega) T  f cd A outer s H E hG hr) r_draw
theorem c_one_of (T : Tx K mg) : Can P w K mg base 2 "_law_one_of" s_one_of ["_law_spring_here", "_law_some"] sp_one_of :=
  can_of T.h_one_of sc_one_of (fun ds s Q h => by
    unfold sp_one_of at h
    split at h <;> first | rfl | exact h.elim) (fun _ _ _ _ _ _ us hl => match us, hl with | [_, _], _ => rfl) (fun f cd A outer s H E hG hr => t_one_of (k := 1) (by omega) T (c_draw T) f cd A outer s H E hG hr) r_one_of
theorem c_divisor (T : Tx K mg) : Can P w K mg base 1 "_law_divisor" s_divisor ["_law_one", "_law_two"] sp_divisor :=
  can_of T.h_divisor sc_divisor (fun ds s Q h => by
    unfold sp_divisor at h
    split at h <;> first | rfl | exact h.elim) (fun _ _ _ _ _ _ us hl => match us, hl with | [_, _], _ => rfl) (fun f cd A outer s H E hG hr => t_divisor (k := 0) (by omega) T  f cd A outer s H E hG hr) r_divisor
theorem c_part (T : Tx K mg) : Can P w K mg base 2 "_law_part" s_part ["_law_top", "_law_base"] sp_part :=
  can_of T.h_part sc_part (fun ds s Q h => by
    unfold sp_part at h
    split at h <;> first | rfl | exact h.elim) (fun _ _ _ _ _ _ us hl => match us, hl with | [_, _], _ => rfl) (fun f cd A outer s H E hG hr => t_part (k := 1) (by omega) T (c_divisor T) f cd A outer s H E hG hr) r_part
theorem c_place (T : Tx K mg) : Can P w K mg base 2 "_law_place" s_place ["_law_x", "_law_y", "_law_w"] sp_place :=
  can_of T.h_place sc_place (fun ds s Q h => by
    unfold sp_place at h
    split at h <;> first | rfl | exact h.elim) (fun _ _ _ _ _ _ us hl => match us, hl with | [_, _, _], _ => rfl) (fun f cd A outer s H E hG hr => t_place (k := 1) (by omega) T (c_divisor T) f cd A outer s H E hG hr) r_place
theorem c_told (T : Tx K mg) : Can P w K mg base 3 "_law_told" s_told ["_law_place_here"] sp_told :=
  can_of T.h_told sc_told (fun ds s Q h => by
    unfold sp_told at h
    split at h <;> first | rfl | exact h.elim) (fun _ _ _ _ _ _ us hl => match us, hl with | [_], _ => rfl) (fun f cd A outer s H E hG hr => t_told (k := 2) (by omega) T (c_part T) f cd A outer s H E hG hr) r_told
theorem c_own (T : Tx K mg) : Can P w K mg base 3 "_law_own" s_own ["_law_told_here"] sp_own :=
  can_of T.h_own sc_own (fun ds s Q h => by
    unfold sp_own at h
    split at h <;> first | rfl | exact h.elim) (fun _ _ _ _ _ _ us hl => match us, hl with | [_], _ => rfl) (fun f cd A outer s H E hG hr => t_own (k := 2) (by omega) T (c_place T) f cd A outer s H E hG hr) r_own
theorem c_side (T : Tx K mg) : Can P w K mg base 1 "_law_side" s_side ["_law_p", "_law_q", "_law_r"] sp_side :=
  can_of T.h_side sc_side (fun ds s Q h => by
    unfold sp_side at h
    split at h <;> first | rfl | exact h.elim) (fun _ _ _ _ _ _ us hl => match us, hl with | [_, _, _], _ => rfl) (fun f cd A outer s H E hG hr => t_side (k := 0) (by omega) T  f cd A outer s H E hG hr) r_side
theorem c_l_is_less (T : Tx K mg) : Can P w K mg base 1 "_law_is_less" s_l_is_less ["_law_p", "_law_q"] sp_l_is_less :=
  can_of T.h_l_is_less sc_l_is_less (fun ds s Q h => by
    unfold sp_l_is_less at h
    split at h <;> first | rfl | exact h.elim) (fun _ _ _ _ _ _ us hl => match us, hl with | [_, _], _ => rfl) (fun f cd A outer s H E hG hr => t_l_is_less (k := 0) (by omega) T  f cd A outer s H E hG hr) r_l_is_less
theorem c_l_lies_on (T : Tx K mg) : Can P w K mg base 2 "_law_lies_on" s_l_lies_on ["_law_p", "_law_q", "_law_r"] sp_l_lies_on :=
  can_of T.h_l_lies_on sc_l_lies_on (fun ds s Q h => by
    unfold sp_l_lies_on at h
    split at h <;> first | rfl | exact h.elim) (fun _ _ _ _ _ _ us hl => match us, hl with | [_, _, _], _ => rfl) (fun f cd A outer s H E hG hr => t_l_lies_on (k := 1) (by omega) T (c_side T) (c_l_is_less T) f cd A outer s H E hG hr) r_l_lies_on
theorem c_odd (T : Tx K mg) : Can P w K mg base 3 "_law_odd" s_odd ["_law_spring_here"] sp_odd :=
  can_of T.h_odd sc_odd (fun ds s Q h => by
    unfold sp_odd at h
    split at h <;> first | rfl | exact h.elim) (fun _ _ _ _ _ _ us hl => match us, hl with | [_], _ => rfl) (fun f cd A outer s H E hG hr => t_odd (k := 2) (by omega) T (c_one_of T) f cd A outer s H E hG hr) r_odd
theorem c_bent0 (T : Tx K mg) : Can P w K mg base 4 "_law_bent" s_bent ["_law_spring_here", "_law_thing"] (sp_bentK 0) :=
  can_of T.h_bent sc_bent (fun ds s Q h => by
    unfold sp_bentK at h
    split at h <;> first | rfl | exact h.elim) (fun _ _ _ _ _ _ us hl => match us, hl with | [_, _], _ => rfl) (fun f cd A outer s H E hG hr => t_bent (k := 3) (by omega) T (c_draw T) (can_none T.h_bent (fun _ _ _ _ _ _ us hl => match us, hl with | [_, _], _ => rfl)) (c_odd T) f cd A outer s H E hG hr) (r_bent 0 _ (fun j e => by cases e))
theorem c_bent1 (T : Tx K mg) : Can P w K mg base 5 "_law_bent" s_bent ["_law_spring_here", "_law_thing"] (sp_bentK 1) :=
  can_of T.h_bent sc_bent (fun ds s Q h => by
    unfold sp_bentK at h
    split at h <;> first | rfl | exact h.elim) (fun _ _ _ _ _ _ us hl => match us, hl with | [_, _], _ => rfl) (fun f cd A outer s H E hG hr => t_bent (k := 4) (by omega) T (c_draw T) (c_bent0 T) (c_odd T) f cd A outer s H E hG hr) (r_bent 1 _ (fun j e ds st Q h => by
    cases e
    exact h))
theorem c_bent2 (T : Tx K mg) : Can P w K mg base 6 "_law_bent" s_bent ["_law_spring_here", "_law_thing"] (sp_bentK 2) :=
  can_of T.h_bent sc_bent (fun ds s Q h => by
    unfold sp_bentK at h
    split at h <;> first | rfl | exact h.elim) (fun _ _ _ _ _ _ us hl => match us, hl with | [_, _], _ => rfl) (fun f cd A outer s H E hG hr => t_bent (k := 5) (by omega) T (c_draw T) (c_bent1 T) (c_odd T) f cd A outer s H E hG hr) (r_bent 2 _ (fun j e ds st Q h => by
    cases e
    exact h))
theorem c_bent (T : Tx K mg) : Can P w K mg base 6 "_law_bent" s_bent ["_law_spring_here", "_law_thing"] sp_bent := c_bent2 T
theorem c_l_is_whole (T : Tx K mg) : Can P w K mg base 1 "_law_is_whole" s_l_is_whole ["_law_thing"] sp_l_is_whole :=
  can_of T.h_l_is_whole sc_l_is_whole (fun ds s Q h => by
    unfold sp_l_is_whole sp_is_whole at h
    split at h <;> first | rfl | exact h.elim) (fun _ _ _ _ _ _ us hl => match us, hl with | [_], _ => rfl) (fun f cd A outer s H E hG hr => t_l_is_whole (k := 0) (by omega) T  f cd A outer s H E hG hr) r_l_is_whole
theorem c_is_lot (T : Tx K mg) : Can P w K mg base 1 "_law_is_lot" s_is_lot ["_law_thing", "_law_low", "_law_high"] sp_is_lot :=
  can_of T.h_is_lot sc_is_lot (fun ds s Q h => by
    unfold sp_is_lot sp_is_row at h
    split at h <;> first | rfl | exact h.elim) (fun _ _ _ _ _ _ us hl => match us, hl with | [_, _, _], _ => rfl) (fun f cd A outer s H E hG hr => t_is_lot (k := 0) (by omega) T  f cd A outer s H E hG hr) r_is_lot
theorem c_l_is_fraction (T : Tx K mg) : Can P w K mg base 2 "_law_is_fraction" s_l_is_fraction ["_law_thing"] sp_l_is_fraction :=
  can_of T.h_l_is_fraction sc_l_is_fraction (fun ds s Q h => by
    unfold sp_l_is_fraction sp_is_fraction at h
    split at h <;> first | rfl | exact h.elim) (fun _ _ _ _ _ _ us hl => match us, hl with | [_], _ => rfl) (fun f cd A outer s H E hG hr => t_l_is_fraction (k := 1) (by omega) T (c_is_lot T) (c_l_is_whole T) (c_divisor T) f cd A outer s H E hG hr) r_l_is_fraction
theorem c_is_told (T : Tx K mg) : Can P w K mg base 3 "_law_is_told" s_is_told ["_law_thing"] sp_is_told :=
  can_of T.h_is_told sc_is_told (fun ds s Q h => by
    unfold sp_is_told sp_is_place at h
    split at h <;> first | rfl | exact h.elim) (fun _ _ _ _ _ _ us hl => match us, hl with | [_], _ => rfl) (fun f cd A outer s H E hG hr => t_is_told (k := 2) (by omega) T (c_is_lot T) (c_l_is_fraction T) f cd A outer s H E hG hr) r_is_told
theorem c_number (T : Tx K mg) : Can P w K mg base 3 "_law_number" s_number ["_law_spring_here"] sp_number :=
  can_of T.h_number sc_number (fun ds s Q h => by
    unfold sp_number at h
    split at h <;> first | rfl | exact h.elim) (fun _ _ _ _ _ _ us hl => match us, hl with | [_], _ => rfl) (fun f cd A outer s H E hG hr => t_number (k := 2) (by omega) T (c_one_of T) (c_draw T) (c_part T) f cd A outer s H E hG hr) r_number
theorem c_third (T : Tx K mg) : Can P w K mg base 4 "_law_third" s_third ["_law_spring_here", "_law_p", "_law_q"] sp_third :=
  can_of T.h_third sc_third (fun ds s Q h => by
    unfold sp_third at h
    split at h <;> first | rfl | exact h.elim) (fun _ _ _ _ _ _ us hl => match us, hl with | [_, _, _], _ => rfl) (fun f cd A outer s H E hG hr => t_third (k := 3) (by omega) T (c_draw T) (c_own T) (c_number T) (c_one_of T) (c_place T) f cd A outer s H E hG hr) r_third
theorem c_l_sign (T : Tx K mg) : Can P w K mg base 1 "_law_sign" s_l_sign ["_law_whole"] sp_l_sign :=
  can_of T.h_l_sign sc_l_sign (fun ds s Q h => by
    unfold sp_l_sign at h
    split at h <;> first | rfl | exact h.elim) (fun _ _ _ _ _ _ us hl => match us, hl with | [_], _ => rfl) (fun f cd A outer s H E hG hr => t_l_sign (k := 0) (by omega) T  f cd A outer s H E hG hr) r_l_sign
theorem c_right (T : Tx K mg) : Can P w K mg base 7 "_law_right" s_right ["_law_spring_here"] sp_right :=
  can_of T.h_right sc_right (fun ds s Q h => by
    unfold sp_right at h
    split at h <;> first | rfl | exact h.elim) (fun _ _ _ _ _ _ us hl => match us, hl with | [_], _ => rfl) (fun f cd A outer s H E hG hr => t_right (k := 6) (by omega) T (c_number T) (c_draw T) (c_own T) (c_third T) (c_told T) (c_l_sign T) (c_side T) (c_turn_of T) (c_l_lies_on T) (c_is_on T) (c_odd T) (c_bent T) (c_is_point T) (c_is_told T) f cd A outer s H E hG hr) r_right
theorem c_law (T : Tx K mg) : Can P w K mg base 8 "law" s_law ["_law_script"] sp_law :=
  can_of T.h_law sc_law (fun ds s Q h => by
    unfold sp_law at h
    split at h <;> first | rfl | exact h.elim) (fun _ _ _ _ _ _ us hl => match us, hl with | [_], _ => rfl) (fun f cd A outer s H E hG hr => t_law (k := 7) (by omega) T (c_right T) (c_spring T) f cd A outer s H E hG hr) r_law
end
end K02
namespace K02
open PySem PySem.Spec PyProof.Rows L2 DL
theorem has_mk {K : PySem.W.Frag} {h : Heap} {mg : Str → Option Value} {x : Str} {st : Stmt} {f : Addr} {od an : Option Addr} {sl : Array (Option Value)} {oc kV dc pm cd ct : Value} (X : K.In h) (G : h.Ns mainGlobals mg)
    (a : PySem.W.nsIn K mainGlobals x = some (some (.ref f))) (l : K.lookup f = some ⟨oc, od, .func (PySem.W.fnOf x x (defArgs st) (defBody st) (defScope st) .none kV dc pm an cd ct), sl⟩) (c : PySem.W.codeIn K cd x = true) (k : PySem.W.keepIn K (.ref f) = true) : Has K mg x st :=
  ⟨f, _, PySem.W.mg_of X G a, fun_mk l c k⟩
theorem law_mk {P : Program} {w : World} {K : PySem.W.Frag} {h : Heap} {mg : Str → Option Value} {fa f : Addr} {od an : Option Addr} {sl : Array (Option Value)} {oc kV dc pm cd ct : Value} (X : K.In h) (G : h.Ns mainGlobals mg) (hfa : mg "law" = some (.ref fa)) (T : Tx K mg)
    (a : PySem.W.nsIn K mainGlobals "law" = some (some (.ref f))) (l : K.lookup f = some ⟨oc, od, .func (PySem.W.fnOf "law" "law" (defArgs s_law) (defBody s_law) (defScope s_law) .none kV dc pm an cd ct), sl⟩) (c : PySem.W.codeIn K cd "law" = true) (k : PySem.W.keepIn K (.ref f) = true) :
    ∃ fd : FuncData, (∀ (s : Shared) (u : Value), BindsTo s fd ⟨[u], []⟩ [("_law_script", u)]) ∧ ∀ base : Heap, K.In base → base.Ns mainGlobals mg → FnD P w K mg base 8 fa fd ["_law_script"] sp_law := by
  have e := hfa.symm.trans (PySem.W.mg_of X G a)
  cases e
  exact ⟨PySem.W.fnOf "law" "law" (defArgs s_law) (defBody s_law) (defScope s_law) .none kV dc pm an cd ct, fun s v => .of_eq rfl, fun base _ _ => fnD_ok (fun_mk l c k) sc_law (fun ds s Q h => by
    unfold sp_law at h
    split at h <;> first | rfl | exact h.elim) (fun cd A outer s H E hG hr => t_law (k := 7) (by omega) T (c_right T) (c_spring T) fa cd A outer s H E hG hr) r_law⟩
end K02
open PySem PySem.W PyProof.Rows
set_option maxHeartbeats 0 in
theorem PySem.Challenge.cw_bentalike_k02_points_and_segments_of_any_holds : PySem.Challenge.rw_bentalike_k02_points_and_segments_of_any.Holds := by
  w_on; o_law; k_head; (case hw => w_witness2)
  k_fill
  refine DL.walkG (l := PySem.Challenge.rw_bentalike_k02_points_and_segments_of_any) (n := 63) (k := 8) (x := "_law_script") (sp := K02.sp_law) rfl (by decide) rfl ⟨rfl, by decide, by decide⟩ (fun w h Y => PySem.W.kIn_of Y) ?F (fun ns hl => ⟨hl, fun _ => rfl⟩)
  case F =>
    intro w mg fa h KX G hmg
    have n_abs : mg "abs" = none := PySem.W.mg_none_of KX G (by k_is)
    have n_all : mg "all" = none := PySem.W.mg_none_of KX G (by k_is)
    have n_bool : mg "bool" = none := PySem.W.mg_none_of KX G (by k_is)
    have n_divmod : mg "divmod" = none := PySem.W.mg_none_of KX G (by k_is)
    have n_int : mg "int" = none := PySem.W.mg_none_of KX G (by k_is)
    have n_isinstance : mg "isinstance" = none := PySem.W.mg_none_of KX G (by k_is)
    have n_len : mg "len" = none := PySem.W.mg_none_of KX G (by k_is)
    have n_list : mg "list" = none := PySem.W.mg_none_of KX G (by k_is)
    have n_max : mg "max" = none := PySem.W.mg_none_of KX G (by k_is)
    have n_min : mg "min" = none := PySem.W.mg_none_of KX G (by k_is)
    have n_range : mg "range" = none := PySem.W.mg_none_of KX G (by k_is)
    have n_repr : mg "repr" = none := PySem.W.mg_none_of KX G (by k_is)
    have n_str : mg "str" = none := PySem.W.mg_none_of KX G (by k_is)
    have n_tuple : mg "tuple" = none := PySem.W.mg_none_of KX G (by k_is)
    have m_gcd : mg "gcd" = some (.builtin "math.gcd") := PySem.W.mg_of KX G (by k_is)
    have m_lcm : mg "lcm" = some (.builtin "math.lcm") := PySem.W.mg_of KX G (by k_is)
    refine' K02.law_mk KX G hmg ⟨n_abs, n_all, n_bool, n_divmod, n_int, n_isinstance, n_len, n_list, n_max, n_min, n_range, n_repr, n_str, n_tuple, m_gcd, m_lcm, K02.has_mk KX G ?a_is_whole ?l_is_whole ?c_is_whole ?k_is_whole, K02.has_mk KX G ?a_is_row ?l_is_row ?c_is_row ?k_is_row, K02.has_mk KX G ?a_is_fraction ?l_is_fraction ?c_is_fraction ?k_is_fraction, K02.has_mk KX G ?a_is_place ?l_is_place ?c_is_place ?k_is_place, K02.has_mk KX G ?a_is_stretch ?l_is_stretch ?c_is_stretch ?k_is_stretch, K02.has_mk KX G ?a_check_point ?l_check_point ?c_check_point ?k_check_point, K02.has_mk KX G ?a_check_segment ?l_check_segment ?c_check_segment ?k_check_segment, K02.has_mk KX G ?a_sign ?l_sign ?c_sign ?k_sign, K02.has_mk KX G ?a_is_less ?l_is_less ?c_is_less ?k_is_less, K02.has_mk KX G ?a_is_ahead ?l_is_ahead ?c_is_ahead ?k_is_ahead, K02.has_mk KX G ?a_scaled ?l_scaled ?c_scaled ?k_scaled, K02.has_mk KX G ?a_crossed ?l_crossed ?c_crossed ?k_crossed, K02.has_mk KX G ?a_along ?l_along ?c_along ?k_along, K02.has_mk KX G ?a_side_of ?l_side_of ?c_side_of ?k_side_of, K02.has_mk KX G ?a_in_order ?l_in_order ?c_in_order ?k_in_order, K02.has_mk KX G ?a_lies_on ?l_lies_on ?c_lies_on ?k_lies_on, K02.has_mk KX G ?a_is_point ?l_is_point ?c_is_point ?k_is_point, K02.has_mk KX G ?a_turn_of ?l_turn_of ?c_turn_of ?k_turn_of, K02.has_mk KX G ?a_is_on ?l_is_on ?c_is_on ?k_is_on, K02.has_mk KX G ?a_spring ?l_spring ?c_spring ?k_spring, K02.has_mk KX G ?a_draw ?l_draw ?c_draw ?k_draw, K02.has_mk KX G ?a_one_of ?l_one_of ?c_one_of ?k_one_of, K02.has_mk KX G ?a_divisor ?l_divisor ?c_divisor ?k_divisor, K02.has_mk KX G ?a_part ?l_part ?c_part ?k_part, K02.has_mk KX G ?a_place ?l_place ?c_place ?k_place, K02.has_mk KX G ?a_told ?l_told ?c_told ?k_told, K02.has_mk KX G ?a_own ?l_own ?c_own ?k_own, K02.has_mk KX G ?a_side ?l_side ?c_side ?k_side, K02.has_mk KX G ?a_l_is_less ?l_l_is_less ?c_l_is_less ?k_l_is_less, K02.has_mk KX G ?a_l_lies_on ?l_l_lies_on ?c_l_lies_on ?k_l_lies_on, K02.has_mk KX G ?a_odd ?l_odd ?c_odd ?k_odd, K02.has_mk KX G ?a_bent ?l_bent ?c_bent ?k_bent, K02.has_mk KX G ?a_l_is_whole ?l_l_is_whole ?c_l_is_whole ?k_l_is_whole, K02.has_mk KX G ?a_is_lot ?l_is_lot ?c_is_lot ?k_is_lot, K02.has_mk KX G ?a_l_is_fraction ?l_l_is_fraction ?c_l_is_fraction ?k_l_is_fraction, K02.has_mk KX G ?a_is_told ?l_is_told ?c_is_told ?k_is_told, K02.has_mk KX G ?a_number ?l_number ?c_number ?k_number, K02.has_mk KX G ?a_third ?l_third ?c_third ?k_third, K02.has_mk KX G ?a_l_sign ?l_l_sign ?c_l_sign ?k_l_sign, K02.has_mk KX G ?a_right ?l_right ?c_right ?k_right, K02.has_mk KX G ?a_law ?l_law ?c_law ?k_law⟩ ?a ?l ?c ?k
    (case a_is_whole => k_is); (case l_is_whole => k_is); (case c_is_whole => k_is); (case k_is_whole => k_is)
    (case a_is_row => k_is); (case l_is_row => k_is); (case c_is_row => k_is); (case k_is_row => k_is)
    (case a_is_fraction => k_is); (case l_is_fraction => k_is); (case c_is_fraction => k_is); (case k_is_fraction => k_is)
    (case a_is_place => k_is); (case l_is_place => k_is); (case c_is_place => k_is); (case k_is_place => k_is)
    (case a_is_stretch => k_is); (case l_is_stretch => k_is); (case c_is_stretch => k_is); (case k_is_stretch => k_is)
    (case a_check_point => k_is); (case l_check_point => k_is); (case c_check_point => k_is); (case k_check_point => k_is)
    (case a_check_segment => k_is); (case l_check_segment => k_is); (case c_check_segment => k_is); (case k_check_segment => k_is)
    (case a_sign => k_is); (case l_sign => k_is); (case c_sign => k_is); (case k_sign => k_is)
    (case a_is_less => k_is); (case l_is_less => k_is); (case c_is_less => k_is); (case k_is_less => k_is)
    (case a_is_ahead => k_is); (case l_is_ahead => k_is); (case c_is_ahead => k_is); (case k_is_ahead => k_is)
    (case a_scaled => k_is); (case l_scaled => k_is); (case c_scaled => k_is); (case k_scaled => k_is)
    (case a_crossed => k_is); (case l_crossed => k_is); (case c_crossed => k_is); (case k_crossed => k_is)
    (case a_along => k_is); (case l_along => k_is); (case c_along => k_is); (case k_along => k_is)
    (case a_side_of => k_is); (case l_side_of => k_is); (case c_side_of => k_is); (case k_side_of => k_is)
    (case a_in_order => k_is); (case l_in_order => k_is); (case c_in_order => k_is); (case k_in_order => k_is)
    (case a_lies_on => k_is); (case l_lies_on => k_is); (case c_lies_on => k_is); (case k_lies_on => k_is)
    (case a_is_point => k_is); (case l_is_point => k_is); (case c_is_point => k_is); (case k_is_point => k_is)
    (case a_turn_of => k_is); (case l_turn_of => k_is); (case c_turn_of => k_is); (case k_turn_of => k_is)
    (case a_is_on => k_is); (case l_is_on => k_is); (case c_is_on => k_is); (case k_is_on => k_is)
    (case a_spring => k_is); (case l_spring => k_is); (case c_spring => k_is); (case k_spring => k_is)
    (case a_draw => k_is); (case l_draw => k_is); (case c_draw => k_is); (case k_draw => k_is)
    (case a_one_of => k_is); (case l_one_of => k_is); (case c_one_of => k_is); (case k_one_of => k_is)
    (case a_divisor => k_is); (case l_divisor => k_is); (case c_divisor => k_is); (case k_divisor => k_is)
    (case a_part => k_is); (case l_part => k_is); (case c_part => k_is); (case k_part => k_is)
    (case a_place => k_is); (case l_place => k_is); (case c_place => k_is); (case k_place => k_is)
    (case a_told => k_is); (case l_told => k_is); (case c_told => k_is); (case k_told => k_is)
    (case a_own => k_is); (case l_own => k_is); (case c_own => k_is); (case k_own => k_is)
    (case a_side => k_is); (case l_side => k_is); (case c_side => k_is); (case k_side => k_is)
    (case a_l_is_less => k_is); (case l_l_is_less => k_is); (case c_l_is_less => k_is); (case k_l_is_less => k_is)
    (case a_l_lies_on => k_is); (case l_l_lies_on => k_is); (case c_l_lies_on => k_is); (case k_l_lies_on => k_is)
    (case a_odd => k_is); (case l_odd => k_is); (case c_odd => k_is); (case k_odd => k_is)
    (case a_bent => k_is); (case l_bent => k_is); (case c_bent => k_is); (case k_bent => k_is)
    (case a_l_is_whole => k_is); (case l_l_is_whole => k_is); (case c_l_is_whole => k_is); (case k_l_is_whole => k_is)
    (case a_is_lot => k_is); (case l_is_lot => k_is); (case c_is_lot => k_is); (case k_is_lot => k_is)
    (case a_l_is_fraction => k_is); (case l_l_is_fraction => k_is); (case c_l_is_fraction => k_is); (case k_l_is_fraction => k_is)
    (case a_is_told => k_is); (case l_is_told => k_is); (case c_is_told => k_is); (case k_is_told => k_is)
    (case a_number => k_is); (case l_number => k_is); (case c_number => k_is); (case k_number => k_is)
    (case a_third => k_is); (case l_third => k_is); (case c_third => k_is); (case k_third => k_is)
    (case a_l_sign => k_is); (case l_l_sign => k_is); (case c_l_sign => k_is); (case k_l_sign => k_is)
    (case a_right => k_is); (case l_right => k_is); (case c_right => k_is); (case k_right => k_is)
    (case a_law => k_is); (case l_law => k_is); (case c_law => k_is); (case k_law => k_is)
    (case a => k_is); (case l => k_is); (case c => k_is); (case k => k_is)
