import PyProof.Rows.All
import HandS.ForExc
import HandS.ForMost
import HandS.IsInst
import HandS.Gcd
import HandS.Wide
import HandS.WideBits
import HandS.TupAny
import HandS.Style
import PyProof.ReprRoads
import KE.KMathGC
import HandS.AnyAll
import HandS.ExcInit
import HandS.EndTab
import HandS.Deep
import HandS.SortInts
import KE.GoesEnum
import KE.SortData
import HandS.Defaults
import HandS.GenList
import PyProof.GenQ
import KE.KDictZip
import KE.GoesMore
import HandS.RevTup
import KE.KExcIs
import HandS.ExcValue
import HandS.Conv
import PyProof.Rows.IntBool
import PyProof.CallStr
import KE.DataEq
import PyProof.ReprBulk
import PyProof.NoPylong
import PySem.Challenge.RW_bentalike_k01_errors_each_of_its_own
set_option Elab.async false
set_option linter.all false
set_option maxRecDepth 100000
set_option maxHeartbeats 4000000
namespace DL
open PySem PySem.Spec PyProof.Rows L2
/-- what a thing of one's own is, that is no list: an exception, a dict, an instance -/
inductive Hdr where
  | exc (C : Addr) (fs : List Str)
  | ex0 (C : Addr)
  | dic (ks : List PyData)
  | ins (C : Addr) (fs : List Str)
  | set (S : Int → Bool) (n : Nat)
/-- what a name may hold: a piece of data, a list that may still change, the script, another thing of one's own (or a def); mk stands ahead in such a thing's store -/
inductive D where
  | d (x : PyData)
  | own (a : Addr)
  | scr (ns : List Int)
  | obj (a : Addr)
  | mk (h : Hdr)
  | tp (ds : List D)
/-- the tables of code objects that may grow -/
class Tabs where
  tp : List Addr
instance (priority := low) noTabs : Tabs := ⟨[]⟩
abbrev Sto := Addr → Option (List D)
def put (st : Sto) (a : Addr) (xs : List D) : Sto := fun b => if b = a then some xs else st b
theorem put_same {st : Sto} {a : Addr} {xs : List D} : put st a xs a = some xs := if_pos rfl
theorem put_ne {st : Sto} {a b : Addr} {xs : List D} (h : b ≠ a) : put st a xs b = st b := if_neg h
mutual
inductive Dv (K : PySem.W.Frag) (st : Sto) (H : Hp) : V → PyData → Prop
  | non : Dv K st H .non .none
  | bl (b : Bool) : Dv K st H (.bl b) (.bool b)
  | int (i : Int) : Dv K st H (.int i) (.int i)
  | str (x : Str) : Dv K st H (.str x) (.str x)
  | lst {a : Addr} {xs : List V} {ds : List PyData} (h : H a = some (.lst xs)) (f : st a = none) (r : Dvs K st H xs ds) : Dv K st H (.ref a) (.list ds)
  | tup {a : Addr} {xs : List V} {ds : List PyData} (h : SqT K H a xs) (r : Dvs K st H xs ds) : Dv K st H (.ref a) (.tuple ds)
  | dic {a : Addr} {kvs : List (Key × V)} {ps : List (PyData × PyData)} (h : H a = some (.dK kvs)) (f : st a = none)
      (r : Dvs K st H (kvs.map fun p => kV p.1) (ps.map (·.1))) (q : Dvs K st H (kvs.map (·.2)) (ps.map (·.2))) : Dv K st H (.ref a) (.dict ps)
inductive Dvs (K : PySem.W.Frag) (st : Sto) (H : Hp) : List V → List PyData → Prop
  | nil : Dvs K st H [] []
  | cons {v : V} {vs : List V} {x : PyData} {xs : List PyData} (h : Dv K st H v x) (t : Dvs K st H vs xs) : Dvs K st H (v :: vs) (x :: xs)
end
/-- what may stand in a tuple with things of one's own -/
inductive DvE (K : PySem.W.Frag) (st : Sto) (H : Hp) : V → D → Prop
  | d {v : V} {x : PyData} (h : Dv K st H v x) : DvE K st H v (.d x)
  | own (a : Addr) (l : ∃ xs, H a = some (.lst xs)) : DvE K st H (.ref a) (.own a)
  | obj (a : Addr) : DvE K st H (.ref a) (.obj a)
inductive DvD (K : PySem.W.Frag) (st : Sto) (H : Hp) : V → D → Prop
  | d {v : V} {x : PyData} (h : Dv K st H v x) : DvD K st H v (.d x)
  | own (a : Addr) (l : ∃ xs, H a = some (.lst xs)) : DvD K st H (.ref a) (.own a)
  | obj (a : Addr) : DvD K st H (.ref a) (.obj a)
  | tp {a : Addr} {vs : List V} {ds : List D} (h : SqT K H a vs) (r : Paired (DvE K st H) vs ds) : DvD K st H (.ref a) (.tp ds)
  | scr {a : Addr} {ns : List Int} (h : SqL K H a (ns.map V.int)) (f : (∃ o, H a = some (.frz o (.lst (ns.map V.int)))) ∨ SqL K (fun _ => none) a (ns.map V.int)) : DvD K st H (.ref a) (.scr ns)
abbrev DvsD (K : PySem.W.Frag) (st : Sto) (H : Hp) : List V → List D → Prop := Paired (DvD K st H)
/-- a key as data -/
def kD : Key → PyData
  | .inl i => .int i
  | .inr x => .str x
/-- a thing that is no list, and what it holds -/
inductive HdO (K : PySem.W.Frag) (st : Sto) (H : Hp) (a : Addr) : Hdr → List V → Prop
  | exc {C dd : Addr} {fs : List (Str × V)} (h : H a = some (exo a C (some dd))) (h2 : H dd = some (exd dd fs)) (f : st dd = none) : HdO K st H a (.exc C (fs.map (·.1))) (fs.map (·.2))
  | exc0 {C : Addr} (h : H a = some (exo a C none)) : HdO K st H a (.ex0 C) []
  | dic {kvs : List (Key × V)} (h : H a = some (.dK kvs)) : HdO K st H a (.dic (kvs.map fun p => kD p.1)) (kvs.map (·.2))
  | ins {C dx : Addr} {fs : List (Str × V)} (h : H a = some (.ins C dx fs)) (h2 : H dx = some (.own a)) (f : st dx = none) : HdO K st H a (.ins C (fs.map (·.1))) (fs.map (·.2))
  | set {S : Int → Bool} {n : Nat} (h : H a = some (.set S n)) : HdO K st H a (.set S n) []
inductive SRO (K : PySem.W.Frag) (st : Sto) (H : Hp) (a : Addr) : List D → Prop
  | lst {xs : List V} {ds : List D} (h : H a = some (.lst xs)) (r : DvsD K st H xs ds) : SRO K st H a ds
  | obj {hd : Hdr} {vs : List V} {ds : List D} (h : HdO K st H a hd vs) (r : DvsD K st H vs ds) : SRO K st H a (.mk hd :: ds)
def Ownable : HO → Prop
  | .lst _ => True
  | .dK _ => True
  | .ins _ _ _ => True
  | .set _ _ => True
  | .ext _ => True
  | _ => False
theorem HdO.there {K : PySem.W.Frag} {st : Sto} {H : Hp} {a : Addr} {hd : Hdr} {vs : List V} (h : HdO K st H a hd vs) : ∃ o, H a = some o ∧ Ownable o ∧ ∀ xs, o ≠ .lst xs := by
  cases h with
  | exc h h2 f => exact ⟨_, h, trivial, fun xs z => by
      have z' : HO.ext _ = HO.lst xs := z
      cases z'⟩
  | exc0 h => exact ⟨_, h, trivial, fun xs z => by
      have z' : HO.ext _ = HO.lst xs := z
      cases z'⟩
  | dic h => exact ⟨_, h, trivial, fun xs z => nomatch z⟩
  | set h => exact ⟨_, h, trivial, fun xs z => nomatch z⟩
  | ins h h2 f => exact ⟨_, h, trivial, fun xs z => nomatch z⟩
/-- the store is held -/
def SR (K : PySem.W.Frag) (st : Sto) (H : Hp) : Prop := ∀ a ds, st a = some ds → SRO K st H a ds
/-- what was laid and not owned stays so -/
structure Fr (st : Sto) (H : Hp) (st' : Sto) (H' : Hp) : Prop where
  ap : ∀ b o, H b = some o → st b = none → (∀ q, o ≠ .tbl q) → H' b = some o ∧ st' b = none
  tb : ∀ P, GxR.TabG H P → st P = none → GxR.TabG H' P ∧ st' P = none
  ls : ∀ b xs, H b = some (.lst xs) → ∃ ys, H' b = some (.lst ys)
instance {st : Sto} {H : Hp} {st' : Sto} {H' : Hp} : CoeFun (Fr st H st' H') (fun _ => ∀ b o, H b = some o → st b = none → (∀ q, o ≠ .tbl q) → H' b = some o ∧ st' b = none) := ⟨Fr.ap⟩
theorem Fr.ofL {st : Sto} {H : Hp} {st' : Sto} {H' : Hp} (h : ∀ b o, H b = some o → st b = none → H' b = some o ∧ st' b = none) (l : ∀ b xs, H b = some (.lst xs) → ∃ ys, H' b = some (.lst ys)) : Fr st H st' H' :=
  ⟨fun b o e f _ => h b o e f, fun P ⟨ps, e, t⟩ f => ⟨⟨ps, (h P _ e f).1, t⟩, (h P _ e f).2⟩, l⟩
theorem Fr.of {st : Sto} {H : Hp} {st' : Sto} (h : ∀ b o, H b = some o → st b = none → H b = some o ∧ st' b = none) : Fr st H st' H := Fr.ofL h fun _ xs e => ⟨xs, e⟩
theorem Fr.refl (st : Sto) (H : Hp) : Fr st H st H := Fr.of fun _ _ h f => ⟨h, f⟩
theorem Fr.trans {st st1 st2 : Sto} {H H1 H2 : Hp} (a : Fr st H st1 H1) (b : Fr st1 H1 st2 H2) : Fr st H st2 H2 where
  ap := fun c o h f n =>
    let ⟨h1, f1⟩ := a c o h f n
    b c o h1 f1 n
  tb := fun P t f =>
    let ⟨t1, f1⟩ := a.tb P t f
    b.tb P t1 f1
  ls := fun c xs h =>
    let ⟨ys, h1⟩ := a.ls c xs h
    b.ls c ys h1
theorem SR.there {K : PySem.W.Frag} {st : Sto} {H : Hp} (S : SR K st H) {a : Addr} {ds : List D} (e : st a = some ds) : ∃ o, H a = some o ∧ Ownable o := by
  cases S a ds e with
  | lst h r => exact ⟨_, h, trivial⟩
  | obj h r =>
    obtain ⟨o, h1, h2, _⟩ := h.there
    exact ⟨o, h1, h2⟩
theorem SR.free {K : PySem.W.Frag} {st : Sto} {H : Hp} (S : SR K st H) {a : Addr} {o : HO} (h : H a = some o) (n : ¬ Ownable o) : st a = none := by
  cases e : st a with
  | none => rfl
  | some ds =>
    obtain ⟨u, q, z⟩ := S.there e
    rw [h] at q
    cases q
    exact absurd z n
theorem SR.free0 {K : PySem.W.Frag} {st : Sto} {H : Hp} (S : SR K st H) {a : Addr} (h : H a = none) : st a = none := by
  cases e : st a with
  | none => rfl
  | some ds =>
    obtain ⟨u, q, _⟩ := S.there e
    rw [h] at q
    cases q
/-- a list of one's own -/
theorem SR.list {K : PySem.W.Frag} {st : Sto} {H : Hp} (S : SR K st H) {a : Addr} {ds : List D} (e : st a = some ds) (l : ∃ xs, H a = some (.lst xs)) : ∃ xs, H a = some (.lst xs) ∧ DvsD K st H xs ds := by
  cases S a ds e with
  | lst h r => exact ⟨_, h, r⟩
  | obj h r =>
    obtain ⟨xs, hl⟩ := l
    obtain ⟨o, h1, _, h2⟩ := h.there
    rw [hl] at h1
    cases h1
    exact absurd rfl (h2 xs)
/-- another thing of one's own -/
theorem SR.thing {K : PySem.W.Frag} {st : Sto} {H : Hp} (S : SR K st H) {a : Addr} {hd : Hdr} {ds : List D} (e : st a = some (.mk hd :: ds)) : ∃ vs, HdO K st H a hd vs ∧ DvsD K st H vs ds := by
  cases S a _ e with
  | lst h r =>
    cases r with
    | cons r _ => cases r
  | obj h r => exact ⟨_, h, r⟩
section
variable {K : PySem.W.Frag} {st st' : Sto} {H H' : Hp}
theorem sqT_mono (F : Fr st H st' H') (S : SR K st H) {a : Addr} {xs : List V} (h : SqT K H a xs) : SqT K H' a xs := by
  rcases h with (h | ⟨o, h⟩) | h
  · exact .inl (.inl (F a _ h (S.free h _root_.id) fun _ z => nomatch z).1)
  · exact .inl (.inr ⟨o, (F a _ h (S.free h _root_.id) fun _ z => nomatch z).1⟩)
  · exact .inr h
mutual
theorem Dv.mono (F : Fr st H st' H') (S : SR K st H) : ∀ {v : V} {x : PyData}, Dv K st H v x → Dv K st' H' v x
  | _, _, .non => .non
  | _, _, .bl b => .bl b
  | _, _, .int i => .int i
  | _, _, .str x => .str x
  | _, _, .lst h f r => .lst (F _ _ h f fun _ z => nomatch z).1 (F _ _ h f fun _ z => nomatch z).2 (Dvs.mono F S r)
  | _, _, .tup h r => .tup (sqT_mono F S h) (Dvs.mono F S r)
  | _, _, .dic h f r q => .dic (F _ _ h f fun _ z => nomatch z).1 (F _ _ h f fun _ z => nomatch z).2 (Dvs.mono F S r) (Dvs.mono F S q)
theorem Dvs.mono (F : Fr st H st' H') (S : SR K st H) : ∀ {vs : List V} {xs : List PyData}, Dvs K st H vs xs → Dvs K st' H' vs xs
  | _, _, .nil => .nil
  | _, _, .cons h t => .cons (Dv.mono F S h) (Dvs.mono F S t)
end
theorem DvE.mono (F : Fr st H st' H') (S : SR K st H) {v : V} {x : D} (h : DvE K st H v x) : DvE K st' H' v x := by
  cases h with
  | d h => exact .d (h.mono F S)
  | own a l => exact .own a (let ⟨xs, e⟩ := l; F.ls a xs e)
  | obj a => exact .obj a
theorem DvEs.mono (F : Fr st H st' H') (S : SR K st H) : ∀ {vs : List V} {xs : List D}, Paired (DvE K st H) vs xs → Paired (DvE K st' H') vs xs
  | _, _, .nil => .nil
  | _, _, .cons h t => .cons (h.mono F S) (DvEs.mono F S t)
theorem DvE.up {v : V} {x : D} (h : DvE K st H v x) : DvD K st H v x := by
  cases h with
  | d h => exact .d h
  | own a l => exact .own a l
  | obj a => exact .obj a
theorem DvEs.up : ∀ {vs : List V} {xs : List D}, Paired (DvE K st H) vs xs → DvsD K st H vs xs
  | _, _, .nil => .nil
  | _, _, .cons h t => .cons h.up (DvEs.up t)
def noTp : D → Bool
  | .tp _ => false
  | .scr _ => false
  | _ => true
theorem DvD.dn {v : V} {x : D} (h : DvD K st H v x) (n : noTp x = true) : DvE K st H v x := by
  cases h with
  | d h => exact .d h
  | own a l => exact .own a l
  | obj a => exact .obj a
  | tp h r => cases n
  | scr h f => cases n
theorem DvsD.dn : ∀ {vs : List V} {xs : List D}, DvsD K st H vs xs → xs.all noTp = true → Paired (DvE K st H) vs xs
  | _, _, .nil, _ => .nil
  | _, _, .cons h t, n => by
    rw [List.all_cons, Bool.and_eq_true] at n
    exact .cons (h.dn n.1) (DvsD.dn t n.2)
theorem DvD.mono (F : Fr st H st' H') (S : SR K st H) {v : V} {x : D} (h : DvD K st H v x) : DvD K st' H' v x := by
  cases h with
  | d h => exact .d (h.mono F S)
  | own a l => exact .own a (let ⟨xs, e⟩ := l; F.ls a xs e)
  | obj a => exact .obj a
  | tp h r => exact .tp (sqT_mono F S h) (DvEs.mono F S r)
  | scr h f =>
    rcases f with ⟨o, f⟩ | f
    · have q := (F _ _ f (S.free f _root_.id) fun _ z => nomatch z).1
      exact .scr (.inl (.inr ⟨o, q⟩)) (.inl ⟨o, q⟩)
    · refine .scr ?_ (.inr f)
      rcases f with (f | ⟨o, f⟩) | f
      · cases f
      · cases f
      · exact .inr f
theorem DvsD.mono (F : Fr st H st' H') (S : SR K st H) : ∀ {vs : List V} {xs : List D}, DvsD K st H vs xs → DvsD K st' H' vs xs
  | _, _, .nil => .nil
  | _, _, .cons h t => .cons (h.mono F S) (DvsD.mono F S t)
theorem Dvs.length : ∀ {vs : List V} {xs : List PyData}, Dvs K st H vs xs → vs.length = xs.length
  | _, _, .nil => rfl
  | _, _, .cons _ t => by rw [List.length_cons, List.length_cons, Dvs.length t]
theorem Dvs.of : ∀ {vs : List V} {xs : List PyData}, DvsD K st H vs (xs.map D.d) → Dvs K st H vs xs
  | [], [], _ => .nil
  | _ :: _, _ :: _, .cons (.d h) t => .cons h (Dvs.of t)
theorem Dvs.to : ∀ {vs : List V} {xs : List PyData}, Dvs K st H vs xs → DvsD K st H vs (xs.map D.d)
  | _, _, .nil => .nil
  | _, _, .cons h t => .cons (.d h) (Dvs.to t)
theorem Dvs.append : ∀ {vs ws : List V} {xs ys : List PyData}, Dvs K st H vs xs → Dvs K st H ws ys → Dvs K st H (vs ++ ws) (xs ++ ys)
  | _, _, _, _, .nil, q => q
  | _, _, _, _, .cons h t, q => .cons h (Dvs.append t q)
theorem Dvs.drop : ∀ {vs : List V} {xs : List PyData} (n : Nat), Dvs K st H vs xs → Dvs K st H (vs.drop n) (xs.drop n)
  | _, _, 0, r => r
  | _, _, _ + 1, .nil => .nil
  | _, _, n + 1, .cons _ t => Dvs.drop n t
theorem Dvs.take : ∀ {vs : List V} {xs : List PyData} (n : Nat), Dvs K st H vs xs → Dvs K st H (vs.take n) (xs.take n)
  | _, _, 0, _ => .nil
  | _, _, _ + 1, .nil => .nil
  | _, _, n + 1, .cons h t => .cons h (Dvs.take n t)
theorem Dvs.get : ∀ {vs : List V} {xs : List PyData} {i : Nat} {x : PyData}, Dvs K st H vs xs → xs[i]? = some x → ∃ v, vs[i]? = some v ∧ Dv K st H v x
  | _, _, _, _, .nil, e => by simp at e
  | _, _, 0, _, .cons h _, e => by
    simp at e
    subst e
    exact ⟨_, rfl, h⟩
  | _, _, i + 1, x, .cons _ t, e => by
    obtain ⟨v, h1, h2⟩ := Dvs.get (i := i) (x := x) t (by simpa using e)
    exact ⟨v, by simpa using h1, h2⟩
theorem DvsD.get : ∀ {vs : List V} {xs : List D} {i : Nat} {x : D}, DvsD K st H vs xs → xs[i]? = some x → ∃ v, vs[i]? = some v ∧ DvD K st H v x
  | _, _, _, _, .nil, e => by simp at e
  | _, _, 0, _, .cons h _, e => by
    simp at e
    subst e
    exact ⟨_, rfl, h⟩
  | _, _, i + 1, x, .cons _ t, e => by
    obtain ⟨v, h1, h2⟩ := DvsD.get (i := i) (x := x) t (by simpa using e)
    exact ⟨v, by simpa using h1, h2⟩
theorem DvsD.snoc : ∀ {vs : List V} {xs : List D} {v : V} {x : D}, DvsD K st H vs xs → DvD K st H v x → DvsD K st H (vs ++ [v]) (xs ++ [x])
  | _, _, _, _, .nil, q => .cons q .nil
  | _, _, _, _, .cons h t, q => .cons h (DvsD.snoc t q)
theorem DvsD.set : ∀ {vs : List V} {xs : List D} {v : V} {x : D} (i : Nat), DvsD K st H vs xs → DvD K st H v x → DvsD K st H (vs.set i v) (xs.set i x)
  | _, _, _, _, _, .nil, _ => .nil
  | _, _, _, _, 0, .cons _ t, q => .cons q t
  | _, _, _, _, i + 1, .cons h t, q => .cons h (DvsD.set i t q)
end
/-! ### laying things -/
section
variable {K : PySem.W.Frag} {st st' : Sto} {H H' : Hp} {p : Addr} {o : HO}
theorem exo_no_tbl {a C : Addr} {d : Option Addr} (q : Array Value) : exo a C d ≠ .tbl q := fun z => by
  have z' : HO.ext _ = HO.tbl q := z
  cases z'
theorem exd_no_tbl {a : Addr} {fs : List (Str × V)} (q : Array Value) : exd a fs ≠ .tbl q := fun z => by
  have z' : HO.ext _ = HO.tbl q := z
  cases z'
/-- a thing that the change leaves alone -/
theorem HdO.keep {a : Addr} {hd : Hdr} {vs : List V} (h : HdO K st H a hd vs) (F : Fr st H st' H') (k : ∀ o, H a = some o → H' a = some o) : HdO K st' H' a hd vs := by
  cases h with
  | exc h h2 f =>
    obtain ⟨e1, e2⟩ := F _ _ h2 f exd_no_tbl
    exact .exc (k _ h) e1 e2
  | exc0 h => exact .exc0 (k _ h)
  | dic h => exact .dic (k _ h)
  | set h => exact .set (k _ h)
  | ins h h2 f =>
    obtain ⟨e1, e2⟩ := F _ _ h2 f fun q z => nomatch z
    exact .ins (k _ h) e1 e2
theorem SRO.keep {a : Addr} {ds : List D} (h : SRO K st H a ds) (S : SR K st H) (F : Fr st H st' H') (k : ∀ o, H a = some o → H' a = some o) : SRO K st' H' a ds := by
  cases h with
  | lst h r => exact .lst (k _ h) (r.mono F S)
  | obj h r => exact .obj (h.keep F k) (r.mono F S)
theorem ls_new (hp : H p = none) (b : Addr) (xs : List V) (h : H b = some (.lst xs)) : ∃ ys, upd H p o b = some (.lst ys) := ⟨xs, by rw [upd_ne (ne_of_none h hp)]; exact h⟩
theorem fr_new (hp : H p = none) : Fr st H st (upd H p o) := Fr.ofL (fun b u h f => ⟨by rw [upd_ne (ne_of_none h hp)]; exact h, f⟩) (ls_new hp)
theorem sr_new (S : SR K st H) (hp : H p = none) : SR K st (upd H p o) := fun a ds e =>
  (S a ds e).keep S (fr_new hp) fun u h => by rw [upd_ne (ne_of_none h hp)]; exact h
theorem fr_own (hp : H p = none) {ds : List D} : Fr st H (put st p ds) (upd H p o) := Fr.ofL (fun b u h f => by
  have n := ne_of_none h hp
  exact ⟨by rw [upd_ne n]; exact h, by rw [put_ne n]; exact f⟩) (ls_new hp)
theorem sr_ownO (S : SR K st H) (hp : H p = none) {ds : List D} (r : SRO K (put st p ds) (upd H p o) p ds) : SR K (put st p ds) (upd H p o) := fun a es e => by
  by_cases h : a = p
  · subst h
    rw [put_same] at e
    cases e
    exact r
  · rw [put_ne h] at e
    exact (S a es e).keep S (fr_own hp) fun u q => by rw [upd_ne h]; exact q
theorem sr_own (S : SR K st H) (hp : H p = none) {xs : List V} {ds : List D} (r : DvsD K st H xs ds) : SR K (put st p ds) (upd H p (.lst xs)) := sr_ownO S hp (.lst upd_same (r.mono (fr_own hp) S))
/-- an owned thing changes -/
theorem fr_put {ds es : List D} (ho : st p = some ds) (l : ∀ xs, H p = some (.lst xs) → ∃ ys, o = .lst ys) : Fr st H (put st p es) (upd H p o) := Fr.ofL (fun b u h f => by
  have n : b ≠ p := fun z => by
    rw [z, ho] at f
    cases f
  exact ⟨by rw [upd_ne n]; exact h, by rw [put_ne n]; exact f⟩) fun b xs h => by
    by_cases n : b = p
    · subst n
      obtain ⟨ys, e⟩ := l xs h
      exact ⟨ys, by rw [upd_same, e]⟩
    · exact ⟨xs, by rw [upd_ne n]; exact h⟩
theorem sr_putO (S : SR K st H) {ds es : List D} (ho : st p = some ds) (l : ∀ xs, H p = some (.lst xs) → ∃ ys, o = .lst ys) (r : SRO K (put st p es) (upd H p o) p es) : SR K (put st p es) (upd H p o) := fun a gs e => by
  by_cases h : a = p
  · subst h
    rw [put_same] at e
    cases e
    exact r
  · rw [put_ne h] at e
    exact (S a gs e).keep S (fr_put ho l) fun u q => by rw [upd_ne h]; exact q
theorem sr_put (S : SR K st H) {ds es : List D} (ho : st p = some ds) {xs : List V} (r : DvsD K st H xs es) : SR K (put st p es) (upd H p (.lst xs)) := sr_putO S ho (fun _ _ => ⟨xs, rfl⟩) (.lst upd_same (r.mono (fr_put ho fun _ _ => ⟨xs, rfl⟩) S))
end
/-! ### the judgements over data -/
abbrev Ed := List (Option D)
abbrev Kd := D → Sto → Prop
abbrev TEd := Ed → Sto → Kd → Prop
abbrev TTd := Ed → Sto → (Bool → Sto → Prop) → Prop
abbrev TAd := Ed → Sto → (List D → Sto → Prop) → Prop
structure EndsD where
  nx : Ed → Sto → Prop
  rt : Kd
  bk : Ed → Sto → Prop := fun _ _ => False
  ct : Ed → Sto → Prop := fun _ _ => False
abbrev TSd := EndsD → Ed → Sto → Prop
structure RE (K : PySem.W.Frag) (st : Sto) (H : Hp) (σ : L2.St) (e : Ed) : Prop where
  len : σ.length = e.length
  at_ : ∀ (i : Nat) (d : D), e[i]? = some (some d) → ∃ v, σ[i]? = some (some v) ∧ DvD K st H v d
theorem RE.mono {K : PySem.W.Frag} {st st' : Sto} {H H' : Hp} {σ : L2.St} {e : Ed} (r : RE K st H σ e) (F : Fr st H st' H') (S : SR K st H) : RE K st' H' σ e :=
  ⟨r.len, fun i d h => let ⟨v, h1, h2⟩ := r.at_ i d h; ⟨v, h1, h2.mono F S⟩⟩
theorem RE.set {K : PySem.W.Frag} {st : Sto} {H : Hp} {σ : L2.St} {e : Ed} (r : RE K st H σ e) {i : Nat} {v : V} {d : D} (h : DvD K st H v d) : RE K st H (σ.set i (some v)) (e.set i (some d)) := by
  refine ⟨by rw [List.length_set, List.length_set]; exact r.len, fun j x hj => ?_⟩
  by_cases hi : i = j
  · subst hi
    rw [List.getElem?_set] at hj ⊢
    rw [if_pos rfl] at hj ⊢
    rw [r.len]
    split at hj
    · rename_i hl
      rw [if_pos hl]
      cases Option.some.inj (Option.some.inj hj)
      exact ⟨v, rfl, h⟩
    · cases hj
  · rw [List.getElem?_set_ne hi] at hj ⊢
    exact r.at_ j x hj
/-- the store that is seen and one that is not -/
def jn (st hid : Sto) : Sto := fun a => match st a with
  | some ds => some ds
  | none => hid a
theorem jn_some {st hid : Sto} {a : Addr} {ds : List D} (h : st a = some ds) : jn st hid a = some ds := by
  unfold jn
  rw [h]
theorem jn_none {st hid : Sto} {a : Addr} (h : st a = none) : jn st hid a = hid a := by
  unfold jn
  rw [h]
theorem jn_put {st hid : Sto} {a : Addr} {ds : List D} : jn (put st a ds) hid = put (jn st hid) a ds := by
  funext b
  by_cases h : b = a
  · subst h
    rw [put_same, jn_some put_same]
  · rw [put_ne h]
    unfold jn
    rw [put_ne h]
theorem jn_free {st hid : Sto} {a : Addr} (h : jn st hid a = none) : st a = none ∧ hid a = none := by
  unfold jn at h
  cases e : st a with
  | some ds =>
    rw [e] at h
    cases h
  | none =>
    rw [e] at h
    exact ⟨rfl, h⟩
def cut (st : Sto) (a : Addr) : Sto := fun b => if b = a then none else st b
theorem cut_same {st : Sto} {a : Addr} : cut st a a = none := if_pos rfl
theorem cut_ne {st : Sto} {a b : Addr} (h : b ≠ a) : cut st a b = st b := if_neg h
structure Sx [Tabs] (K : PySem.W.Frag) (st hid : Sto) (H : Hp) : Prop where
  dj : ∀ a, hid a ≠ none → st a = none
  sr : SR K (jn st hid) H
  tb : ∀ P ∈ Tabs.tp, GxR.TabG H P
theorem tab_off {H : Hp} {p P : Addr} {o : HO} (t : GxR.TabG H P) (h : H p = none ∨ ∃ u, H p = some u ∧ Ownable u) : GxR.TabG (upd H p o) P := by
  obtain ⟨ps, e, q⟩ := t
  have n : P ≠ p := fun z => by
    rw [← z, e] at h
    rcases h with h | ⟨u, h, z⟩ <;> cases h
    exact z
  exact ⟨ps, by rw [upd_ne n]; exact e, q⟩
variable [Tabs]
abbrev FrX (st hid : Sto) (H : Hp) (st' : Sto) (H' : Hp) : Prop := Fr (jn st hid) H (jn st' hid) H'
section
variable {K : PySem.W.Frag} {st hid : Sto} {H : Hp} {p : Addr} {o : HO}
theorem Sx.new (S : Sx K st hid H) (hp : H p = none) : Sx K st hid (upd H p o) := ⟨S.dj, sr_new S.sr hp, fun P hP => tab_off (S.tb P hP) (.inl hp)⟩
theorem Sx.ownO (S : Sx K st hid H) (hp : H p = none) {ds : List D} (r : SRO K (jn (put st p ds) hid) (upd H p o) p ds) : Sx K (put st p ds) hid (upd H p o) := by
  rw [jn_put] at r
  refine ⟨fun a h => ?_, by rw [jn_put]; exact sr_ownO S.sr hp r, fun P hP => tab_off (S.tb P hP) (.inl hp)⟩
  by_cases e : a = p
  · subst e
    exact absurd (jn_free (S.sr.free0 hp)).2 h
  · rw [put_ne e]
    exact S.dj a h
theorem fx_own (hp : H p = none) {ds : List D} : FrX st hid H (put st p ds) (upd H p o) := by
  unfold FrX
  rw [jn_put]
  exact fr_own hp
theorem Sx.own (S : Sx K st hid H) (hp : H p = none) {xs : List V} {ds : List D} (r : DvsD K (jn st hid) H xs ds) : Sx K (put st p ds) hid (upd H p (.lst xs)) := S.ownO hp (.lst upd_same (r.mono (fx_own hp) S.sr))
theorem Sx.storeO (S : Sx K st hid H) {ds es : List D} (ho : st p = some ds) (l : ∀ xs, H p = some (.lst xs) → ∃ ys, o = .lst ys) (r : SRO K (jn (put st p es) hid) (upd H p o) p es) : Sx K (put st p es) hid (upd H p o) := by
  rw [jn_put] at r
  refine ⟨fun a h => ?_, by rw [jn_put]; exact sr_putO S.sr (jn_some ho) l r, fun P hP => tab_off (S.tb P hP) (.inr (S.sr.there (jn_some ho)))⟩
  by_cases e : a = p
  · subst e
    have := S.dj a h
    rw [ho] at this
    cases this
  · rw [put_ne e]
    exact S.dj a h
theorem fx_putO {ds es : List D} (ho : st p = some ds) (l : ∀ xs, H p = some (.lst xs) → ∃ ys, o = .lst ys) : FrX st hid H (put st p es) (upd H p o) := by
  unfold FrX
  rw [jn_put]
  exact fr_put (jn_some ho) l
theorem fx_put {ds es : List D} {xs : List V} (ho : st p = some ds) : FrX st hid H (put st p es) (upd H p (.lst xs)) := fx_putO ho fun _ _ => ⟨xs, rfl⟩
theorem Sx.store (S : Sx K st hid H) {ds es : List D} (ho : st p = some ds) {xs : List V} (r : DvsD K (jn st hid) H xs es) : Sx K (put st p es) hid (upd H p (.lst xs)) := S.storeO ho (fun _ _ => ⟨xs, rfl⟩) (.lst upd_same (r.mono (fx_put ho) S.sr))
theorem Sx.frz (S : Sx K st hid H) {ds : List D} (ho : st p = some ds) : Sx K (cut st p) hid H ∧ FrX st hid H (cut st p) H ∧ jn (cut st p) hid p = none := by
  have hp : hid p = none := by
    cases e : hid p with
    | none => rfl
    | some es =>
      have := S.dj p (by rw [e]; exact fun z => nomatch z)
      rw [ho] at this
      cases this
  have hj : ∀ b, b ≠ p → jn (cut st p) hid b = jn st hid b := fun b n => by
    unfold jn
    rw [cut_ne n]
  have hjp : jn (cut st p) hid p = none := (jn_none cut_same).trans hp
  have F : FrX st hid H (cut st p) H := Fr.of fun b o h f => ⟨h, by
    by_cases n : b = p
    · rw [n]
      exact hjp
    · rw [hj b n]
      exact f⟩
  refine ⟨⟨fun a h => ?_, fun a es e => ?_, S.tb⟩, F, hjp⟩
  · by_cases n : a = p
    · rw [n]
      exact cut_same
    · rw [cut_ne n]
      exact S.dj a h
  · have n : a ≠ p := fun z => by
      rw [z, hjp] at e
      cases e
    rw [hj a n] at e
    exact (S.sr a es e).keep S.sr F fun _ q => q
theorem Sx.go {H' : Hp} (S : Sx K st hid H) (F : FrX st hid H st H') (r : SR K (jn st hid) H') : Sx K st hid H' :=
  ⟨S.dj, r, fun P hP => (F.tb P (S.tb P hP) (let ⟨_, e, _⟩ := S.tb P hP; S.sr.free e _root_.id)).1⟩
theorem Sx.at_ (S : Sx K st hid H) {ds : List D} (ho : st p = some ds) (l : ∃ xs, H p = some (.lst xs)) : ∃ xs, H p = some (.lst xs) ∧ DvsD K (jn st hid) H xs ds := S.sr.list (jn_some ho) l
theorem Sx.thing (S : Sx K st hid H) {hd : Hdr} {ds : List D} (ho : st p = some (.mk hd :: ds)) : ∃ vs, HdO K (jn st hid) H p hd vs ∧ DvsD K (jn st hid) H vs ds := S.sr.thing (jn_some ho)
end
/-- what a rule over data promises of a value -/
abbrev Go (K : PySem.W.Frag) (st hid : Sto) (H : Hp) (Qd : Kd) (Q : VK) : Prop := ∀ v H' d st', FrX st hid H st' H' → Sx K st' hid H' → DvD K (jn st' hid) H' v d → Qd d st' → Q v H'
abbrev GoT (K : PySem.W.Frag) (st hid : Sto) (H : Hp) (Qd : Bool → Sto → Prop) (Q : Bool → Hp → Prop) : Prop := ∀ b H' st', FrX st hid H st' H' → Sx K st' hid H' → Qd b st' → Q b H'
abbrev GoA (K : PySem.W.Frag) (st hid : Sto) (H : Hp) (Qd : List D → Sto → Prop) (Q : List V → Hp → Prop) : Prop := ∀ vs H' ds st', FrX st hid H st' H' → Sx K st' hid H' → DvsD K (jn st' hid) H' vs ds → Qd ds st' → Q vs H'
abbrev GoS (K : PySem.W.Frag) (st hid : Sto) (H : Hp) (Qd : Ed → Sto → Prop) (Q : L2.St → Hp → Prop) : Prop := ∀ σ' H' e' st', FrX st hid H st' H' → Sx K st' hid H' → RE K (jn st' hid) H' σ' e' → Qd e' st' → Q σ' H'
def up (K : PySem.W.Frag) (t : TEd) : TE := fun σ H Q => ∃ e st hid Qd, RE K (jn st hid) H σ e ∧ Sx K st hid H ∧ t e st Qd ∧ Go K st hid H Qd Q
def upT (K : PySem.W.Frag) (t : TTd) : TT := fun σ H Q => ∃ e st hid Qd, RE K (jn st hid) H σ e ∧ Sx K st hid H ∧ t e st Qd ∧ GoT K st hid H Qd Q
def upA (K : PySem.W.Frag) (t : TAd) : TA := fun σ H Q => ∃ e st hid Qd, RE K (jn st hid) H σ e ∧ Sx K st hid H ∧ t e st Qd ∧ GoA K st hid H Qd Q
def upS (K : PySem.W.Frag) (t : TSd) : TS := fun E σ H => ∃ e st hid Ed, RE K (jn st hid) H σ e ∧ Sx K st hid H ∧ t Ed e st ∧ GoS K st hid H Ed.nx E.nx ∧ Go K st hid H Ed.rt E.rt ∧ GoS K st hid H Ed.bk E.bk ∧ GoS K st hid H Ed.ct E.ct
section
variable {K : PySem.W.Frag} {st hid st1 : Sto} {H H1 : Hp}
theorem Go.mono {Qd : Kd} {Q : VK} (g : Go K st hid H Qd Q) (F : FrX st hid H st1 H1) : Go K st1 hid H1 Qd Q := fun v H' d st' F' => g v H' d st' (Fr.trans F F')
theorem GoT.mono {Qd : Bool → Sto → Prop} {Q : Bool → Hp → Prop} (g : GoT K st hid H Qd Q) (F : FrX st hid H st1 H1) : GoT K st1 hid H1 Qd Q := fun b H' st' F' => g b H' st' (Fr.trans F F')
theorem GoA.mono {Qd : List D → Sto → Prop} {Q : List V → Hp → Prop} (g : GoA K st hid H Qd Q) (F : FrX st hid H st1 H1) : GoA K st1 hid H1 Qd Q := fun b H' ds st' F' => g b H' ds st' (Fr.trans F F')
theorem GoS.mono {Qd : Ed → Sto → Prop} {Q : L2.St → Hp → Prop} (g : GoS K st hid H Qd Q) (F : FrX st hid H st1 H1) : GoS K st1 hid H1 Qd Q := fun v H' d st' F' => g v H' d st' (Fr.trans F F')
theorem Go.now {Qd : Kd} {Q : VK} (g : Go K st hid H Qd Q) {v : V} {d : D} (S : Sx K st hid H) (h : DvD K (jn st hid) H v d) (q : Qd d st) : Q v H := g v H d st (Fr.refl _ _) S h q
/-- a new thing laid -/
theorem Go.new {Qd : Kd} {Q : VK} (g : Go K st hid H Qd Q) {p : Addr} {o : HO} {d : D} (S : Sx K st hid H) (hp : H p = none) (h : DvD K (jn st hid) (upd H p o) (.ref p) d) (q : Qd d st) : Q (.ref p) (upd H p o) := g _ _ d st (fr_new hp) (S.new hp) h q
end
abbrev PD (X : Cx) (e : Expr) (t : TEd) : Prop := PE X e (up X.K t)
abbrev PDT (X : Cx) (e : Expr) (t : TTd) : Prop := PT X e (upT X.K t)
abbrev PDW (X : Cx) (e : Expr) (t : TTd) : Prop := PW X e (upT X.K t)
abbrev PDA (X : Cx) (es : List Expr) (t : TAd) : Prop := PA X es (upA X.K t)
abbrev PDS (X : Cx) (s : Stmt) (t : TSd) : Prop := PS X s (upS X.K t)
abbrev PDSs (X : Cx) (s : List Stmt) (t : TSd) : Prop := PSs X s (upS X.K t)
theorem PE.imp {X : Cx} {e : Expr} {t t' : TE} (h : PE X e t) (i : ∀ σ H Q, t' σ H Q → t σ H Q) : PE X e t' := ⟨fun pins s σ H Q I w => h.run pins s σ H Q I (i σ H Q w)⟩
theorem PT.imp {X : Cx} {e : Expr} {t t' : TT} (h : PT X e t) (i : ∀ σ H Q, t' σ H Q → t σ H Q) : PT X e t' := ⟨fun pins s σ H Q I w => h.run pins s σ H Q I (i σ H Q w)⟩
theorem PW.imp {X : Cx} {e : Expr} {t t' : TT} (h : PW X e t) (i : ∀ σ H Q, t' σ H Q → t σ H Q) : PW X e t' := ⟨fun wh pins s σ H Q I w => h.run wh pins s σ H Q I (i σ H Q w)⟩
theorem PA.imp {X : Cx} {e : List Expr} {t t' : TA} (h : PA X e t) (i : ∀ σ H Q, t' σ H Q → t σ H Q) : PA X e t' := ⟨fun pos pins s σ H Q I w => h.run pos pins s σ H Q I (i σ H Q w)⟩
theorem PS.imp {X : Cx} {e : Stmt} {t t' : TS} (h : PS X e t) (i : ∀ D σ H, t' D σ H → t D σ H) : PS X e t' := ⟨fun pins s σ H Q I w => h.run pins s σ H Q I (i Q σ H w)⟩
theorem PSs.imp {X : Cx} {e : List Stmt} {t t' : TS} (h : PSs X e t) (i : ∀ D σ H, t' D σ H → t D σ H) : PSs X e t' := ⟨fun pins s σ H Q I w => h.run pins s σ H Q I (i Q σ H w)⟩
/-! ### names, constants -/
section
variable {X : Cx} {pos : Pos} {a b c : Expr} {ta tb tc : TEd}
def dVar (i : Nat) : TEd := fun e st Q => ∃ d, e[i]? = some (some d) ∧ Q d st
theorem pd (i : Nat) {x : Str} (hN : X.N[i]? = some x := by rfl) (hv : Vis X.env.scope x := by first | exact Or.inl rfl | exact Or.inr (Or.inl rfl) | exact Or.inr (Or.inr rfl)) (hd : (x == ("__debug__" : Str)) = false := by decide)
    (hcd : (x == ("__classdict__" : Str)) = false := by decide) : PD X (.Name x pos) (dVar i) :=
  PE.imp (pe_var hN hv hd hcd) fun σ H Q ⟨e, st, hid, Qd, re, S, ⟨d, h, q⟩, k⟩ => by
    obtain ⟨v, h1, h2⟩ := re.at_ i d h
    exact ⟨v, h1, k.now S h2 q⟩
def dC (x : PyData) : TEd := fun _ st Q => Q (.d x) st
theorem pd_int {i : Int} {j : Nat} : PD X (.Constant (.int i) j pos) (dC (.int i)) :=
  PE.imp pe_int fun σ H Q ⟨e, st, hid, Qd, re, S, q, k⟩ => k.now S (.d (.int i)) q
theorem pd_bl {b : Bool} {j : Nat} : PD X (.Constant (.bool b) j pos) (dC (.bool b)) :=
  PE.imp pe_bl fun σ H Q ⟨e, st, hid, Qd, re, S, q, k⟩ => k.now S (.d (.bl b)) q
theorem pd_non {j : Nat} : PD X (.Constant .none j pos) (dC .none) :=
  PE.imp pe_non fun σ H Q ⟨e, st, hid, Qd, re, S, q, k⟩ => k.now S (.d .non) q
theorem pd_str {x : Str} {j : Nat} : PD X (.Constant (.str x) j pos) (dC (.str x)) :=
  PE.imp pe_str fun σ H Q ⟨e, st, hid, Qd, re, S, q, k⟩ => k.now S (.d (.str x)) q
end
end DL
namespace DL
open PySem PySem.Spec PyProof.Rows L2
variable [Tabs]
theorem OpR.imp {X : Cx} {f : Value → Value → Sem Value} {r r' : R2} (h : OpR X f r) (i : ∀ x y H Q, r' x y H Q → r x y H Q) : OpR X f r' := fun pins s σ H x y v u Q I rx ry q => h pins s σ H x y v u Q I rx ry (i x y H Q q)
/-! ### lists of things -/
def pures : List D → Option (List PyData)
  | [] => some []
  | .d x :: r => (pures r).map (x :: ·)
  | _ :: _ => none
theorem pures_eq : ∀ {ds : List D} {xs : List PyData}, pures ds = some xs → ds = xs.map D.d
  | [], _, h => by
    cases h
    rfl
  | .d x :: r, xs, h => by
    unfold pures at h
    cases e : pures r with
    | none =>
      rw [e] at h
      cases h
    | some ys =>
      rw [e] at h
      cases h
      rw [pures_eq e]
      rfl
  | .own _ :: _, _, h => by cases h
  | .obj _ :: _, _, h => by cases h
  | .mk _ :: _, _, h => by cases h
  | .tp _ :: _, _, h => by cases h
  | .scr _ :: _, _, h => by cases h
theorem pures_map : ∀ xs : List PyData, pures (xs.map D.d) = some xs
  | [] => rfl
  | x :: xs => by
    show (pures (xs.map D.d)).map (x :: ·) = _
    rw [pures_map xs]
    rfl
/-- a new list: a value, or one that may still change -/
def mkL (ds : List D) (st : Sto) (Q : Kd) : Prop := (∃ xs, pures ds = some xs ∧ Q (.d (.list xs)) st) ∨ (∀ p, st p = none → Q (.own p) (put st p ds))
theorem mkL_go {K : PySem.W.Frag} {st hid : Sto} {H : Hp} {Qd : Kd} {Q : VK} {ds : List D} {xs : List V} {p : Addr} (h : mkL ds st Qd) (S : Sx K st hid H) (hp : H p = none) (r : DvsD K (jn st hid) H xs ds) (k : Go K st hid H Qd Q) : Q (.ref p) (upd H p (.lst xs)) := by
  have fp := jn_free (S.sr.free0 hp)
  rcases h with ⟨ys, e, q⟩ | q
  · have e2 := pures_eq e
    subst e2
    exact k.new S hp (.d (.lst upd_same (S.sr.free0 hp) ((Dvs.of r).mono (fr_new hp) S.sr))) q
  · exact k _ _ (.own p) _ (fx_own hp) (S.own hp r) (.own p ⟨_, upd_same⟩) (q p fp.1)
section
variable {X : Cx} {pos p p2 : Pos} {a b c e : Expr} {es rest : List Expr} {ta tb tc te : TEd} {t : TAd}
/-! ### argument lists, displays -/
def dNil : TAd := fun _ st Q => Q [] st
def dCons (ta : TEd) (tr : TAd) : TAd := fun e st Q => ta e st fun x st1 => tr e st1 fun xs st2 => Q (x :: xs) st2
theorem pda_nil : PDA X [] dNil := PA.imp pa_nil fun σ H Q ⟨e, st, hid, Qd, re, S, h, k⟩ => k [] H [] st (Fr.refl _ _) S .nil h
theorem pda_cons (ha : PD X e te) (hr : PDA X es t) (hs : starEach (e :: es) X.env = (false, eval e X.env) :: starEach es X.env := by rfl) : PDA X (e :: es) (dCons te t) :=
  PA.imp (pa_cons ha hr hs) fun σ H Q ⟨e, st, hid, Qd, re, S, h, k⟩ => ⟨e, st, hid, _, re, S, h, fun v1 H1 d1 st1 F1 S1 r1 h1 => ⟨e, st1, hid, _, re.mono F1 S.sr, S1, h1, fun vs H2 ds st2 F2 S2 r2 h2 =>
    k _ H2 (d1 :: ds) st2 (Fr.trans F1 F2) S2 (.cons (r1.mono F2 S1.sr) r2) h2⟩⟩
def dTup (t : TAd) : TEd := fun e st Q => t e st fun ds st' => match pures ds with
  | some xs => ds.length ≤ sizeLine ∧ Q (.d (.tuple xs)) st'
  | none => False
theorem pd_tup {x1} (h : PDA X es t) : PD X (.Tuple es x1 pos) (dTup t) :=
  PE.imp (pe_tup h) fun σ H Q ⟨e, st, hid, Qd, re, S, h, k⟩ => ⟨e, st, hid, _, re, S, h, fun vs H1 ds st1 F1 S1 r1 h1 => by
    cases q : pures ds with
    | none =>
      rw [q] at h1
      exact h1.elim
    | some xs =>
      rw [q] at h1
      have e2 := pures_eq q
      subst e2
      refine ⟨by rw [Paired.length r1]; exact h1.1, fun p hp => (k.mono F1).new S1 hp (.d (.tup (.inl (.inl upd_same)) ((Dvs.of r1).mono (fr_new hp) S1.sr))) h1.2⟩⟩
def dLst (t : TAd) : TEd := fun e st Q => t e st fun ds st' => ds.length ≤ sizeLine ∧ mkL ds st' Q
theorem pd_lst (h : PDA X es t) : PD X (.List es pos) (dLst t) :=
  PE.imp (pe_lst h) fun σ H Q ⟨e, st, hid, Qd, re, S, h, k⟩ => ⟨e, st, hid, _, re, S, h, fun vs H1 ds st1 F1 S1 r1 h1 =>
    ⟨by rw [Paired.length r1]; exact h1.1, fun p hp => mkL_go h1.2 S1 hp r1 (k.mono F1)⟩⟩
/-- .. as a value -/
def dLstV (t : TAd) : TEd := fun e st Q => t e st fun ds st' => match pures ds with
  | some xs => ds.length ≤ sizeLine ∧ Q (.d (.list xs)) st'
  | none => False
theorem pd_lstV (h : PDA X es t) : PD X (.List es pos) (dLstV t) :=
  PE.imp (pe_lst h) fun σ H Q ⟨e, st, hid, Qd, re, S, h, k⟩ => ⟨e, st, hid, _, re, S, h, fun vs H1 ds st1 F1 S1 r1 h1 => by
    cases q : pures ds with
    | none =>
      rw [q] at h1
      exact h1.elim
    | some xs =>
      rw [q] at h1
      exact ⟨by rw [Paired.length r1]; exact h1.1, fun p hp => mkL_go (.inl ⟨xs, q, h1.2⟩) S1 hp r1 (k.mono F1)⟩⟩
/-! ### operators -/
abbrev R2d := D → D → Sto → Kd → Prop
def upR (K : PySem.W.Frag) (r : R2d) : R2 := fun x y H Q => ∃ dx dy st hid Qd, DvD K (jn st hid) H x dx ∧ DvD K (jn st hid) H y dy ∧ Sx K st hid H ∧ r dx dy st Qd ∧ Go K st hid H Qd Q
def dBin (r : R2d) (ta tb : TEd) : TEd := fun e st Q => ta e st fun x st1 => tb e st1 fun y st2 => r x y st2 Q
theorem bin_imp {K : PySem.W.Frag} {r : R2d} {σ : L2.St} {H : Hp} {Q : VK} (w : up K (dBin r ta tb) σ H Q) : tOp (upR K r) (up K ta) (up K tb) σ H Q := by
  obtain ⟨e, st, hid, Qd, re, S, h, k⟩ := w
  exact ⟨e, st, hid, _, re, S, h, fun v1 H1 d1 st1 F1 S1 r1 h1 => ⟨e, st1, hid, _, re.mono F1 S.sr, S1, h1, fun v2 H2 d2 st2 F2 S2 r2 h2 =>
    ⟨d1, d2, st2, hid, Qd, r1.mono F2 S1.sr, r2, S2, h2, k.mono (Fr.trans F1 F2)⟩⟩⟩
theorem pd_bin {op : Operator} {r : R2d} (ho : OpR X (binaryOp op) (upR X.K r)) (ha : PD X a ta) (hb : PD X b tb) : PD X (.BinOp a op b pos) (dBin r ta tb) := PE.imp (pe_op ho ha hb) fun _ _ _ => bin_imp
theorem pd_cmp {op : CmpOp} {r : R2d} (ho : OpR X (compareOp op) (upR X.K r)) (ha : PD X a ta) (hb : PD X b tb) (hm : behindInMarks op b = false) : PD X (.Compare a [op] [b] pos) (dBin r ta tb) := PE.imp (pe_cmpR ho ha hb hm) fun _ _ _ => bin_imp
/-- a bool as a test -/
def asB (Q : Bool → Sto → Prop) : Kd := fun d st => match d with
  | .d (.bool b) => Q b st
  | _ => False
def dTst (t : TEd) : TTd := fun e st Q => t e st (asB Q)
theorem tst_go {K : PySem.W.Frag} {st hid : Sto} {H : Hp} {Qd : Bool → Sto → Prop} {Q : Bool → Hp → Prop} (k : GoT K st hid H Qd Q) : Go K st hid H (asB Qd) (fun x H' => ∃ c, x = .bl c ∧ Q c H') := fun v H' d st' F S r q => by
  cases r with
  | own a _ => exact q.elim
  | obj a => exact q.elim
  | tp _ _ => exact q.elim
  | scr h f => exact q.elim
  | d h =>
    cases h with
    | bl b => exact ⟨b, rfl, k b H' st' F S q⟩
    | non => exact q.elim
    | int i => exact q.elim
    | str i => exact q.elim
    | lst h f r => exact q.elim
    | tup h r => exact q.elim
    | dic h f r z => exact q.elim
theorem pdt_val (h : PD X e te) (he : ∀ whole, isTrue e X.env whole = (do let v ← whole; standAt e.pos; holding [v] (truthy v)) := by intro _; rfl) : PDT X e (dTst te) :=
  PT.imp (pt_val h he) fun σ H Q ⟨e, st, hid, Qd, re, S, h, k⟩ => ⟨e, st, hid, _, re, S, h, tst_go k⟩
theorem pdt_cmp {op : CmpOp} {r : R2d} (ho : OpR X (compareOp op) (upR X.K r)) (ha : PD X a ta) (hb : PD X b tb) (hm : behindInMarks op b = false) : PDT X (.Compare a [op] [b] pos) (dTst (dBin r ta tb)) :=
  PT.imp (pt_cmpR ho ha hb hm) fun σ H Q ⟨e, st, hid, Qd, re, S, h, k⟩ => bin_imp ⟨e, st, hid, _, re, S, h, tst_go k⟩
def dChain (r r' : R2d) (ta tb tc : TEd) : TEd := fun e st Q => ta e st fun x st1 => tb e st1 fun y st2 => r x y st2 (asB fun k st3 => if k = true then tc e st3 fun z st4 => r' y z st4 Q else Q (.d (.bool false)) st3)
theorem chain_imp {K : PySem.W.Frag} {r r' : R2d} {σ : L2.St} {H : Hp} {Q : VK} (w : up K (dChain r r' ta tb tc) σ H Q) : tChain (upR K r) (upR K r') (up K ta) (up K tb) (up K tc) σ H Q := by
  obtain ⟨e, st, hid, Qd, re, S, h, k⟩ := w
  refine ⟨e, st, hid, _, re, S, h, fun v1 H1 d1 st1 F1 S1 r1 h1 => ⟨e, st1, hid, _, re.mono F1 S.sr, S1, h1, fun v2 H2 d2 st2 F2 S2 r2 h2 => ⟨d1, d2, st2, hid, _, r1.mono F2 S1.sr, r2, S2, h2, tst_go fun b H3 st3 F3 S3 h3 => ?_⟩⟩⟩
  have F := Fr.trans F1 (Fr.trans F2 F3)
  cases b with
  | false =>
    rw [if_neg Bool.false_ne_true] at h3 ⊢
    exact (k.mono F).now S3 (.d (.bl false)) h3
  | true =>
    rw [if_pos rfl] at h3 ⊢
    exact ⟨e, st3, hid, _, re.mono F S.sr, S3, h3, fun v4 H4 d4 st4 F4 S4 r4 h4 => ⟨d2, d4, st4, hid, Qd, r2.mono (Fr.trans F3 F4) S2.sr, r4, S4, h4, k.mono (Fr.trans F F4)⟩⟩
theorem pd_chain {op op' : CmpOp} {r r' : R2d} (ho : OpR X (compareOp op) (upR X.K r)) (ho' : OpR X (compareOp op') (upR X.K r')) (ha : PD X a ta) (hb : PD X b tb) (hc : PD X c tc)
    (hm : lastMarks [op, op'] [b, c] = false := by with_unfolding_all rfl) : PD X (.Compare a [op, op'] [b, c] pos) (dChain r r' ta tb tc) := PE.imp (pe_chain ho ho' ha hb hc hm) fun _ _ _ => chain_imp
theorem pdt_chain {op op' : CmpOp} {r r' : R2d} (ho : OpR X (compareOp op) (upR X.K r)) (ho' : OpR X (compareOp op') (upR X.K r')) (ha : PD X a ta) (hb : PD X b tb) (hc : PD X c tc)
    (hm : lastMarks [op, op'] [b, c] = false := by with_unfolding_all rfl) : PDT X (.Compare a [op, op'] [b, c] pos) (dTst (dChain r r' ta tb tc)) :=
  PT.imp (pt_chain ho ho' ha hb hc hm) fun σ H Q ⟨e, st, hid, Qd, re, S, h, k⟩ => chain_imp ⟨e, st, hid, _, re, S, h, tst_go k⟩
/-! ### and, or, not, if -/
variable {tA tB : TTd}
def dAndT (t u : TTd) : TTd := fun e st Q => t e st fun c st1 => if c = true then u e st1 Q else Q false st1
def dOrT (t u : TTd) : TTd := fun e st Q => t e st fun c st1 => if c = true then Q true st1 else u e st1 Q
def dNotT (t : TTd) : TTd := fun e st Q => t e st fun c st1 => Q (!c) st1
theorem pdw_and1 (ha : PDT X a tA) : PDW X (.BoolOp .And [a] pos) tA := pw_and1 ha
theorem pdw_or1 (ha : PDT X a tA) : PDW X (.BoolOp .Or [a] pos) tA := pw_or1 ha
theorem pdw_and (ha : PDT X a tA) (hb : PDW X (.BoolOp .And (b :: rest) pos) tB) : PDW X (.BoolOp .And (a :: b :: rest) pos) (dAndT tA tB) :=
  PW.imp (pw_and ha hb) fun σ H Q ⟨e, st, hid, Qd, re, S, h, k⟩ => ⟨e, st, hid, _, re, S, h, fun c H1 st1 F1 S1 h1 => by
    cases c with
    | true =>
      rw [if_pos rfl] at h1 ⊢
      exact ⟨e, st1, hid, Qd, re.mono F1 S.sr, S1, h1, k.mono F1⟩
    | false =>
      rw [if_neg Bool.false_ne_true] at h1 ⊢
      exact k false H1 st1 F1 S1 h1⟩
theorem pdw_or (ha : PDT X a tA) (hb : PDW X (.BoolOp .Or (b :: rest) pos) tB) : PDW X (.BoolOp .Or (a :: b :: rest) pos) (dOrT tA tB) :=
  PW.imp (pw_or ha hb) fun σ H Q ⟨e, st, hid, Qd, re, S, h, k⟩ => ⟨e, st, hid, _, re, S, h, fun c H1 st1 F1 S1 h1 => by
    cases c with
    | false =>
      rw [if_neg Bool.false_ne_true] at h1 ⊢
      exact ⟨e, st1, hid, Qd, re.mono F1 S.sr, S1, h1, k.mono F1⟩
    | true =>
      rw [if_pos rfl] at h1 ⊢
      exact k true H1 st1 F1 S1 h1⟩
theorem pdt_w (h : PDW X e tA) : PDT X e tA := h.pt
theorem pdt_not (ha : PDT X a tA) : PDT X (.UnaryOp .Not a pos) (dNotT tA) :=
  PT.imp (pt_not ha) fun σ H Q ⟨e, st, hid, Qd, re, S, h, k⟩ => ⟨e, st, hid, _, re, S, h, fun c H1 st1 F1 S1 h1 => k (!c) H1 st1 F1 S1 h1⟩
def dAnd (ta tb : TEd) : TEd := fun e st Q => ta e st (asB fun c st1 => if c = true then tb e st1 Q else Q (.d (.bool false)) st1)
def dOr (ta tb : TEd) : TEd := fun e st Q => ta e st (asB fun c st1 => if c = true then Q (.d (.bool true)) st1 else tb e st1 Q)
def dNot (ta : TEd) : TEd := fun e st Q => ta e st (asB fun c st1 => Q (.d (.bool (!c))) st1)
theorem pd_one {op} (h : PD X a ta) : PD X (.BoolOp op [a] pos) ta := pe_one h
theorem pd_and (ha : PD X a ta) (hb : PD X (.BoolOp .And (b :: rest) pos) tb) : PD X (.BoolOp .And (a :: b :: rest) pos) (dAnd ta tb) :=
  PE.imp (pe_and ha hb) fun σ H Q ⟨e, st, hid, Qd, re, S, h, k⟩ => ⟨e, st, hid, _, re, S, h, tst_go fun c H1 st1 F1 S1 h1 => by
    cases c with
    | true =>
      rw [if_pos rfl] at h1 ⊢
      exact ⟨e, st1, hid, Qd, re.mono F1 S.sr, S1, h1, k.mono F1⟩
    | false =>
      rw [if_neg Bool.false_ne_true] at h1 ⊢
      exact (k.mono F1).now S1 (.d (.bl false)) h1⟩
theorem pd_or (ha : PD X a ta) (hb : PD X (.BoolOp .Or (b :: rest) pos) tb) : PD X (.BoolOp .Or (a :: b :: rest) pos) (dOr ta tb) :=
  PE.imp (pe_or ha hb) fun σ H Q ⟨e, st, hid, Qd, re, S, h, k⟩ => ⟨e, st, hid, _, re, S, h, tst_go fun c H1 st1 F1 S1 h1 => by
    cases c with
    | false =>
      rw [if_neg Bool.false_ne_true] at h1 ⊢
      exact ⟨e, st1, hid, Qd, re.mono F1 S.sr, S1, h1, k.mono F1⟩
    | true =>
      rw [if_pos rfl] at h1 ⊢
      exact (k.mono F1).now S1 (.d (.bl true)) h1⟩
theorem pd_not (ha : PD X a ta) : PD X (.UnaryOp .Not a pos) (dNot ta) :=
  PE.imp (pe_not ha) fun σ H Q ⟨e, st, hid, Qd, re, S, h, k⟩ => ⟨e, st, hid, _, re, S, h, tst_go fun c H1 st1 F1 S1 h1 => (k.mono F1).now S1 (.d (.bl (!c))) h1⟩
def dIf (t : TTd) (ta tb : TEd) : TEd := fun e st Q => t e st fun c st1 => if c = true then ta e st1 Q else tb e st1 Q
theorem pd_if (hc : PDT X c tA) (ha : PD X a ta) (hb : PD X b tb) : PD X (.IfExp c a b pos) (dIf tA ta tb) :=
  PE.imp (pe_ifExp hc ha hb) fun σ H Q ⟨e, st, hid, Qd, re, S, h, k⟩ => ⟨e, st, hid, _, re, S, h, fun c H1 st1 F1 S1 h1 => by
    cases c with
    | true =>
      rw [if_pos rfl] at h1 ⊢
      exact ⟨e, st1, hid, Qd, re.mono F1 S.sr, S1, h1, k.mono F1⟩
    | false =>
      rw [if_neg Bool.false_ne_true] at h1 ⊢
      exact ⟨e, st1, hid, Qd, re.mono F1 S.sr, S1, h1, k.mono F1⟩⟩
/-- - i -/
def dNeg (ta : TEd) : TEd := fun e st Q => ta e st fun d st1 => match d with
  | .d (.int i) => Q (.d (.int (-i))) st1
  | _ => False
theorem pd_neg (ha : PD X a ta) : PD X (.UnaryOp .USub a pos) (dNeg ta) :=
  PE.imp (pe_un un_neg ha) fun σ H Q ⟨e, st, hid, Qd, re, S, h, k⟩ => ⟨e, st, hid, _, re, S, h, fun v H1 d st1 F1 S1 r h1 => by
    cases r with
    | own a _ => exact h1.elim
    | obj a => exact h1.elim
    | tp _ _ => exact h1.elim
    | scr h f => exact h1.elim
    | d h =>
      cases h with
      | int i => exact ⟨i, rfl, (k.mono F1).now S1 (.d (.int (-i))) h1⟩
      | _ => exact h1.elim⟩
/-! ### ints -/
def rI2 (C : Int → Int → Prop) (g : Int → Int → PyData) : R2d := fun x y st Q => match x, y with
  | .d (.int i), .d (.int j) => C i j ∧ Q (.d (g i j)) st
  | _, _ => False
theorem rI2_at {K : PySem.W.Frag} {C : Int → Int → Prop} {g : Int → Int → PyData} {x y : V} {dx dy : D} {st hid : Sto} {H : Hp} {Q : Kd} (hx : DvD K (jn st hid) H x dx) (hy : DvD K (jn st hid) H y dy) (h : rI2 C g dx dy st Q) : ∃ i j, x = .int i ∧ y = .int j ∧ C i j ∧ Q (.d (g i j)) st := by
  cases hx with
  | own a _ => exact h.elim
  | obj a => exact h.elim
  | tp _ _ => exact h.elim
  | scr h1 f => exact h.elim
  | d hx =>
    cases hy with
    | own a _ => cases hx <;> exact h.elim
    | obj a => cases hx <;> exact h.elim
    | tp _ _ => cases hx <;> exact h.elim
    | scr h1 f => cases hx <;> exact h.elim
    | d hy =>
      cases hx with
      | int i =>
        cases hy with
        | int j => exact ⟨i, j, rfl, rfl, h.1, h.2⟩
        | _ => exact h.elim
      | _ => cases hy <;> exact h.elim
theorem up_int {f : Value → Value → Sem Value} {C : Int → Int → Prop} {g : Int → Int → Int} (h : OpR X f (rI C fun i j => .int (g i j))) : OpR X f (upR X.K (rI2 C fun i j => .int (g i j))) := OpR.imp h fun x y H Q ⟨dx, dy, st, hid, Qd, hx, hy, S, w, k⟩ => by
  obtain ⟨i, j, rfl, rfl, hc, q⟩ := rI2_at hx hy w
  exact ⟨i, j, rfl, rfl, hc, k.now S (.d (.int _)) q⟩
theorem up_int0 {f : Value → Value → Sem Value} {g : Int → Int → Int} (h : OpR X f (rI0 fun i j => .int (g i j))) : OpR X f (upR X.K (rI2 (fun _ _ => True) fun i j => .int (g i j))) := OpR.imp h fun x y H Q ⟨dx, dy, st, hid, Qd, hx, hy, S, w, k⟩ => by
  obtain ⟨i, j, rfl, rfl, hc, q⟩ := rI2_at hx hy w
  exact ⟨i, j, rfl, rfl, k.now S (.d (.int _)) q⟩
theorem up_cmp0 {f : Value → Value → Sem Value} {g : Int → Int → Bool} (h : OpR X f (rI0 fun i j => .bl (g i j))) : OpR X f (upR X.K (rI2 (fun _ _ => True) fun i j => .bool (g i j))) := OpR.imp h fun x y H Q ⟨dx, dy, st, hid, Qd, hx, hy, S, w, k⟩ => by
  obtain ⟨i, j, rfl, rfl, hc, q⟩ := rI2_at hx hy w
  exact ⟨i, j, rfl, rfl, k.now S (.d (.bl _)) q⟩
def rSubD : R2d := rI2 (fun _ _ => True) fun i j => .int (i - j)
def rMulD : R2d := rI2 CMulW fun i j => .int (i * j)
def rDivD : R2d := rI2 CDivW fun i j => .int (i / j)
def rModD : R2d := rI2 (fun _ j => 0 < j) fun i j => .int (i % j)
def rPowD : R2d := rI2 CPow fun i j => .int (i ^ j.toNat)
def rLtD : R2d := rI2 (fun _ _ => True) fun i j => .bool (decide (i < j))
def rLeD : R2d := rI2 (fun _ _ => True) fun i j => .bool (decide (i ≤ j))
def rGtD : R2d := rI2 (fun _ _ => True) fun i j => .bool (decide (j < i))
def rGeD : R2d := rI2 (fun _ _ => True) fun i j => .bool (decide (j ≤ i))
theorem o_sub : OpR X (binaryOp .Sub) (upR X.K rSubD) := up_int0 op_sub
theorem o_mul : OpR X (binaryOp .Mult) (upR X.K rMulD) := up_int op_mulW
theorem o_div : OpR X (binaryOp .FloorDiv) (upR X.K rDivD) := up_int op_fdivW
theorem o_mod : OpR X (binaryOp .Mod) (upR X.K rModD) := up_int op_mod
theorem o_pow : OpR X (binaryOp .Pow) (upR X.K rPowD) := up_int op_pow
theorem o_lt : OpR X (compareOp .Lt) (upR X.K rLtD) := up_cmp0 op_lt
theorem o_le : OpR X (compareOp .LtE) (upR X.K rLeD) := up_cmp0 op_le
theorem o_gt : OpR X (compareOp .Gt) (upR X.K rGtD) := up_cmp0 op_gt
theorem o_ge : OpR X (compareOp .GtE) (upR X.K rGeD) := up_cmp0 op_ge
end
end DL
namespace DL
open PySem PySem.Spec PyProof.Rows L2
variable [Tabs]
/-! ### lists, read -/
def lstOf (d : D) (st : Sto) : Option (List D) := match d with
  | .d (.list xs) => some (xs.map D.d)
  | .own a => st a
  | .scr ns => some (ns.map fun n => .d (.int n))
  | _ => none
/-- .. such as a list display, an append may have made -/
def wlOf (d : D) (st : Sto) : Option (List D) := match d with
  | .d (.list xs) => some (xs.map D.d)
  | .own a => st a
  | _ => none
section
variable {K : PySem.W.Frag} {st hid : Sto} {H : Hp}
theorem ints_to : ∀ ns : List Int, DvsD K st H (ns.map V.int) (ns.map fun n => .d (.int n))
  | [] => .nil
  | n :: ns => .cons (.d (.int n)) (ints_to ns)
theorem wlOf_at {x : V} {d : D} {ds : List D} (r : DvD K (jn st hid) H x d) (S : Sx K st hid H) (e : wlOf d st = some ds) : ∃ a xs, x = .ref a ∧ H a = some (.lst xs) ∧ DvsD K (jn st hid) H xs ds := by
  cases r with
  | obj a => cases e
  | tp _ _ => cases e
  | own a l =>
    obtain ⟨xs, h1, h2⟩ := S.at_ (show st a = some ds from e) l
    exact ⟨a, xs, rfl, h1, h2⟩
  | scr h f => cases e
  | d h =>
    cases h with
    | lst h f r =>
      cases (show some (_ : List D) = some ds from e)
      exact ⟨_, _, rfl, h, Dvs.to r⟩
    | _ => cases e
theorem lstOf_at {x : V} {d : D} {ds : List D} (r : DvD K (jn st hid) H x d) (S : Sx K st hid H) (e : lstOf d st = some ds) : ∃ a xs, x = .ref a ∧ SqL K H a xs ∧ DvsD K (jn st hid) H xs ds := by
  cases r with
  | obj a => cases e
  | tp _ _ => cases e
  | own a l =>
    obtain ⟨xs, h1, h2⟩ := S.at_ (show st a = some ds from e) l
    exact ⟨a, xs, rfl, .inl (.inl h1), h2⟩
  | scr h f =>
    cases (show some (_ : List D) = some ds from e)
    exact ⟨_, _, rfl, h, ints_to _⟩
  | d h =>
    cases h with
    | lst h f r =>
      cases (show some (_ : List D) = some ds from e)
      exact ⟨_, _, rfl, .inl (.inl h), Dvs.to r⟩
    | _ => cases e
theorem tup_at {x : V} {xs : List PyData} (r : DvD K (jn st hid) H x (.d (.tuple xs))) : ∃ a vs, x = .ref a ∧ SqT K H a vs ∧ Dvs K (jn st hid) H vs xs := by
  cases r with
  | d h =>
    cases h with
    | tup h r => exact ⟨_, _, rfl, h, r⟩
theorem int_at {x : V} {i : Int} (r : DvD K (jn st hid) H x (.d (.int i))) : x = .int i := by
  cases r with
  | d h =>
    cases h with
    | int i => rfl
theorem str_at {x : V} {i : Str} (r : DvD K (jn st hid) H x (.d (.str i))) : x = .str i := by
  cases r with
  | d h =>
    cases h with
    | str i => rfl
theorem bl_at {x : V} {i : Bool} (r : DvD K (jn st hid) H x (.d (.bool i))) : x = .bl i := by
  cases r with
  | d h =>
    cases h with
    | bl i => rfl
theorem DvsD.append : ∀ {vs ws : List V} {xs ys : List D}, DvsD K st H vs xs → DvsD K st H ws ys → DvsD K st H (vs ++ ws) (xs ++ ys)
  | _, _, _, _, .nil, q => q
  | _, _, _, _, .cons h t, q => .cons h (DvsD.append t q)
theorem DvsD.drop : ∀ {vs : List V} {xs : List D} (n : Nat), DvsD K st H vs xs → DvsD K st H (vs.drop n) (xs.drop n)
  | _, _, 0, r => r
  | _, _, _ + 1, .nil => .nil
  | _, _, n + 1, .cons _ t => DvsD.drop n t
theorem DvsD.take : ∀ {vs : List V} {xs : List D} (n : Nat), DvsD K st H vs xs → DvsD K st H (vs.take n) (xs.take n)
  | _, _, 0, _ => .nil
  | _, _, _ + 1, .nil => .nil
  | _, _, n + 1, .cons h t => .cons h (DvsD.take n t)
theorem DvsD.reverse : ∀ {vs : List V} {xs : List D}, DvsD K st H vs xs → DvsD K st H vs.reverse xs.reverse
  | _, _, .nil => .nil
  | _, _, .cons h t => by
    rw [List.reverse_cons, List.reverse_cons]
    exact DvsD.snoc (DvsD.reverse t) h
theorem atI_pair {α β : Type} {xs : List α} {ys : List β} {i : Int} {y : β} (hl : xs.length = ys.length) (h : atI ys i = some y) : ∃ j : Nat, ys[j]? = some y ∧ ∀ x, xs[j]? = some x → atI xs i = some x := by
  unfold atI at h ⊢
  rw [hl]
  cases e : ixN ys.length i with
  | none =>
    rw [e] at h
    cases h
  | some j =>
    rw [e] at h
    exact ⟨j, h, fun x q => q⟩
theorem DvsD.at_ {vs : List V} {xs : List D} {i : Int} {d : D} (r : DvsD K st H vs xs) (h : atI xs i = some d) : ∃ v, atI vs i = some v ∧ DvD K st H v d := by
  obtain ⟨j, h1, h2⟩ := atI_pair (Paired.length r) h
  obtain ⟨v, h3, h4⟩ := r.get h1
  exact ⟨v, h2 v h3, h4⟩
theorem Dvs.at_ {vs : List V} {xs : List PyData} {i : Int} {d : PyData} (r : Dvs K st H vs xs) (h : atI xs i = some d) : ∃ v, atI vs i = some v ∧ Dv K st H v d := by
  obtain ⟨j, h1, h2⟩ := atI_pair r.length h
  obtain ⟨v, h3, h4⟩ := r.get h1
  exact ⟨v, h2 v h3, h4⟩
/-! data without dicts, as the library's == reads it -/
mutual
theorem Dv.dp : ∀ {v : V} {x : PyData}, Dv K st H v x → x.hasDict = false → Dp K H v x
  | _, _, .non, _ => .non
  | _, _, .bl b, _ => .bl b
  | _, _, .int i, _ => .int i
  | _, _, .str x, _ => .str x
  | _, _, .lst h f r, n => .lst (.inl (.inl h)) (Dvs.dp r (by simpa [PyData.hasDict] using n))
  | _, _, .tup h r, n => .tup h (Dvs.dp r (by simpa [PyData.hasDict] using n))
  | _, _, .dic h f r q, n => by simp [PyData.hasDict] at n
theorem Dvs.dp : ∀ {vs : List V} {xs : List PyData}, Dvs K st H vs xs → PyData.hasDictAll xs = false → DpAll K H vs xs
  | _, _, .nil, _ => .nil
  | _, _, .cons h t, n => by
    have n2 := (Bool.or_eq_false_iff.mp (show (PyData.hasDict _ || PyData.hasDictAll _) = false by simpa [PyData.hasDictAll] using n))
    exact .cons (Dv.dp h n2.1) (Dvs.dp t n2.2)
end
end
section
variable {X : Cx} {pos p p2 : Pos} {a b c e : Expr} {es rest : List Expr} {ta tb tc te : TEd} {t : TAd}
/-! ### + -/
def rAddD : R2d := fun x y st Q => match x, y with
  | .d (.int i), .d (.int j) => Q (.d (.int (i + j))) st
  | .d (.str i), .d (.str j) => i.length + j.length ≤ sizeLine ∧ Q (.d (.str (i ++ j))) st
  | .d (.tuple xs), .d (.tuple ys) => xs.length + ys.length ≤ sizeLine ∧ Q (.d (.tuple (xs ++ ys))) st
  | .d (.list xs), .d (.list ys) => xs.length + ys.length ≤ sizeLine ∧ Q (.d (.list (xs ++ ys))) st
  | x, y => ∃ xs ys, wlOf x st = some xs ∧ wlOf y st = some ys ∧ xs.length + ys.length ≤ sizeLine ∧ mkL (xs ++ ys) st Q
theorem o_add : OpR X (binaryOp .Add) (upR X.K rAddD) := fun pins s σ H x y v u Q I rx ry ⟨dx, dy, st, hid, Qd, hx, hy, S, w, k⟩ => by
  unfold rAddD at w
  split at w
  · cases int_at hx
    cases int_at hy
    exact op_add pins s σ H _ _ v u Q I rx ry ⟨_, _, rfl, rfl, k.now S (.d (.int _)) w⟩
  · cases str_at hx
    cases str_at hy
    exact op_add_str pins s σ H _ _ v u Q I rx ry ⟨_, _, rfl, rfl, w.1, k.now S (.d (.str _)) w.2⟩
  · rename_i xs ys
    obtain ⟨a, vs, rfl, h1, r1⟩ := tup_at hx
    obtain ⟨b, ws, rfl, h2, r2⟩ := tup_at hy
    have l1 := r1.length
    have l2 := r2.length
    refine op_catA pins s σ H _ _ v u Q I rx ry ⟨a, b, vs, ws, rfl, rfl, h1, h2, by omega, fun z => ?_, fun _ z => ?_, fun _ _ p hp => ?_⟩
    · subst z
      have e : xs = [] := List.length_eq_zero_iff.mp l1.symm
      subst e
      exact k.now S hy w.2
    · subst z
      have e : ys = [] := List.length_eq_zero_iff.mp l2.symm
      subst e
      rw [List.append_nil] at w
      exact k.now S hx w.2
    · exact k.new S hp (.d (.tup (.inl (.inl upd_same)) ((r1.append r2).mono (fr_new hp) S.sr))) w.2
  · rename_i xs ys
    obtain ⟨a, vs, rfl, h1, r1⟩ := wlOf_at hx S rfl
    obtain ⟨b, ws, rfl, h2, r2⟩ := wlOf_at hy S rfl
    have l1 := Paired.length r1
    have l2 := Paired.length r2
    rw [List.length_map] at l1 l2
    refine op_cat pins s σ H _ _ v u Q I rx ry ⟨a, b, vs, ws, rfl, rfl, h1, h2, by omega, fun p hp => mkL_go (.inl ⟨xs ++ ys, ?_, w.2⟩) S hp (r1.append r2) k⟩
    rw [← List.map_append]
    exact pures_map _
  · obtain ⟨xs, ys, e1, e2, hz, q⟩ := w
    obtain ⟨a, vs, rfl, h1, r1⟩ := wlOf_at hx S e1
    obtain ⟨b, ws, rfl, h2, r2⟩ := wlOf_at hy S e2
    have l1 := Paired.length r1
    have l2 := Paired.length r2
    exact op_cat pins s σ H _ _ v u Q I rx ry ⟨a, b, vs, ws, rfl, rfl, h1, h2, by omega, fun p hp => mkL_go q S hp (r1.append r2) k⟩
/-! ### == and != -/
def rEqV : R2d := fun x y st Q => match x, y with
  | .d (.int i), .d (.int j) => Q (.d (.bool (decide (i = j)))) st
  | .d (.str i), .d (.str j) => Q (.d (.bool (decide (i = j)))) st
  | .d i, .d j => SeqAt.shaped i = true ∧ SeqAt.shaped j = true ∧ Q (.d (.bool (PyData.eqv i j))) st
  | _, _ => False
def rNeV : R2d := fun x y st Q => match x, y with
  | .d (.int i), .d (.int j) => Q (.d (.bool (!decide (i = j)))) st
  | .d (.str i), .d (.str j) => Q (.d (.bool (!decide (i = j)))) st
  | .d i, .d j => SeqAt.shaped i = true ∧ SeqAt.shaped j = true ∧ Q (.d (.bool (!PyData.eqv i j))) st
  | _, _ => False
theorem noDict {d : PyData} (h : SeqAt.shaped d = true) : d.hasDict = false := PyData.hasDict_of_canLay d (SeqAt.canLay_of_shaped h)
theorem o_eq (hu : X.A.units + 64 < cLine) : OpR X (compareOp .Eq) (upR X.K rEqV) := fun pins s σ H x y v u Q I rx ry ⟨dx, dy, st, hid, Qd, hx, hy, S, w, k⟩ => by
  unfold rEqV at w
  split at w
  · cases int_at hx
    cases int_at hy
    refine op_eq pins s σ H _ _ v u Q I rx ry ⟨rfl, ?_⟩
    rw [dec_int, show ∀ i j : Int, (i == j) = decide (i = j) from fun i j => by rw [Bool.eq_iff_iff]; simp]
    exact k.now S (.d (.bl _)) w
  · cases str_at hx
    cases str_at hy
    refine op_eq pins s σ H _ _ v u Q I rx ry ⟨rfl, ?_⟩
    rw [dec_str, show ∀ i j : Str, (i == j) = decide (i = j) from fun i j => by rw [Bool.eq_iff_iff]; simp]
    exact k.now S (.d (.bl _)) w
  · cases hx with
    | d hx =>
      cases hy with
      | d hy => exact op_eqD hu pins s σ H _ _ v u Q I rx ry ⟨_, _, hx.dp (noDict w.1), hy.dp (noDict w.2.1), w.1, w.2.1, k.now S (.d (.bl _)) w.2.2⟩
  · exact w.elim
theorem o_ne (hu : X.A.units + 64 < cLine) : OpR X (compareOp .NotEq) (upR X.K rNeV) := fun pins s σ H x y v u Q I rx ry ⟨dx, dy, st, hid, Qd, hx, hy, S, w, k⟩ => by
  unfold rNeV at w
  split at w
  · cases int_at hx
    cases int_at hy
    refine op_ne pins s σ H _ _ v u Q I rx ry ⟨rfl, ?_⟩
    rw [dec_int, show ∀ i j : Int, (i == j) = decide (i = j) from fun i j => by rw [Bool.eq_iff_iff]; simp]
    exact k.now S (.d (.bl _)) w
  · cases str_at hx
    cases str_at hy
    refine op_ne pins s σ H _ _ v u Q I rx ry ⟨rfl, ?_⟩
    rw [dec_str, show ∀ i j : Str, (i == j) = decide (i = j) from fun i j => by rw [Bool.eq_iff_iff]; simp]
    exact k.now S (.d (.bl _)) w
  · cases hx with
    | d hx =>
      cases hy with
      | d hy => exact op_neD hu pins s σ H _ _ v u Q I rx ry ⟨_, _, hx.dp (noDict w.1), hy.dp (noDict w.2.1), w.1, w.2.1, k.now S (.d (.bl _)) w.2.2⟩
  · exact w.elim
/-! ### x[i], x[lo:hi], x[::-1] -/
def rIxD : R2d := fun x y st Q => match y with
  | .d (.int i) => match x with
    | .d (.tuple xs) => ∃ v, atI xs i = some v ∧ Q (.d v) st
    | .d (.str z) => z.length ≤ sizeLine ∧ ∃ n, atI z.cps.toList i = some n ∧ Q (.d (.str ⟨#[n]⟩)) st
    | x => ∃ ds v, lstOf x st = some ds ∧ atI ds i = some v ∧ Q v st
  | _ => False
theorem ix_imp : IxR X (upR X.K rIxD) := by
  intro value slice pins s σ H x y v u Q I rx ry ⟨dx, dy, st, hid, Qd, hx, hy, S, w, k⟩ hs
  unfold rIxD at w
  split at w
  · rename_i i
    cases int_at hy
    split at w
    · obtain ⟨d, e, q⟩ := w
      obtain ⟨a, vs, rfl, h1, r1⟩ := tup_at hx
      obtain ⟨z, h2, r2⟩ := r1.at_ e
      exact ix_tup value slice pins s σ H _ _ v u Q I rx ry ⟨a, vs, i, z, rfl, rfl, h1, h2, k.now S (.d r2) q⟩ hs
    · obtain ⟨hz, n, e, q⟩ := w
      cases str_at hx
      exact ix_str value slice pins s σ H _ _ v u Q I rx ry ⟨_, i, n, rfl, rfl, hz, e, k.now S (.d (.str _)) q⟩ hs
    · obtain ⟨ds, d, e1, e, q⟩ := w
      obtain ⟨a, vs, rfl, h1, r1⟩ := lstOf_at hx S e1
      obtain ⟨z, h2, r2⟩ := r1.at_ e
      exact ix_list value slice pins s σ H _ _ v u Q I rx ry ⟨a, vs, i, z, rfl, rfl, h1, h2, k.now S r2 q⟩ hs
  · exact w.elim
theorem pd_ix (ha : PD X a ta) (hb : PD X b tb) (hs : PlainIx b) : PD X (.Subscript a b pos) (dBin rIxD ta tb) := PE.imp (pe_ix ix_imp ha hb hs) fun _ _ _ => bin_imp
abbrev TOd := Ed → Sto → (Option Int → Sto → Prop) → Prop
abbrev GoO (K : PySem.W.Frag) (st hid : Sto) (H : Hp) (Qd : Option Int → Sto → Prop) (Q : Option Int → Hp → Prop) : Prop := ∀ b H' st', FrX st hid H st' H' → Sx K st' hid H' → Qd b st' → Q b H'
def upO (K : PySem.W.Frag) (t : TOd) : TO := fun σ H Q => ∃ e st hid Qd, RE K (jn st hid) H σ e ∧ Sx K st hid H ∧ t e st Qd ∧ GoO K st hid H Qd Q
abbrev PDO (X : Cx) (e : Option Expr) (t : TOd) : Prop := PO X e (upO X.K t)
theorem PO.imp {X : Cx} {e : Option Expr} {t t' : TO} (h : PO X e t) (i : ∀ σ H Q, t' σ H Q → t σ H Q) : PO X e t' := ⟨fun pins s σ H Q I w => h.run pins s σ H Q I (i σ H Q w)⟩
def dNoP : TOd := fun _ st Q => Q none st
def dPart (t : TEd) : TOd := fun e st Q => t e st fun d st1 => match d with
  | .d (.int i) => Q (some i) st1
  | _ => False
theorem pdo_none : PDO X none dNoP := PO.imp po_none fun σ H Q ⟨e, st, hid, Qd, re, S, h, k⟩ => k none H st (Fr.refl _ _) S h
theorem pdo_some (h : PD X e te) : PDO X (some e) (dPart te) := PO.imp (po_some h) fun σ H Q ⟨e, st, hid, Qd, re, S, h, k⟩ => ⟨e, st, hid, _, re, S, h, fun v H1 d st1 F1 S1 r q => by
  cases r with
  | own a _ => exact q.elim
  | obj a => exact q.elim
  | tp _ _ => exact q.elim
  | scr h f => exact q.elim
  | d h =>
    cases h with
    | int i => exact ⟨i, rfl, k (some i) H1 st1 F1 S1 q⟩
    | _ => exact q.elim⟩
/-- the items of xs[lo:hi] -/
def cutP {α : Type} (xs : List α) (lo hi : Option Int) : List α := (xs.drop (HT.sIx xs.length 0 lo)).take (HT.sIx xs.length xs.length hi - HT.sIx xs.length 0 lo)
def rSlD (x : D) (lo hi : Option Int) (st : Sto) (Q : Kd) : Prop := match x with
  | .d (.tuple xs) => Q (.d (.tuple (cutP xs lo hi))) st
  | .d (.list xs) => Q (.d (.list (cutP xs lo hi))) st
  | .scr ns => Q (.d (.list ((cutP ns lo hi).map .int))) st
  | x => ∃ ds, lstOf x st = some ds ∧ mkL (cutP ds lo hi) st Q
theorem cutP_map {α β : Type} (f : α → β) (xs : List α) (lo hi : Option Int) : cutP (xs.map f) lo hi = (cutP xs lo hi).map f := by
  unfold cutP
  rw [List.length_map, List.map_take, List.map_drop]
def dSl (te : TEd) (tl th : TOd) : TEd := fun e st Q => te e st fun x st1 => tl e st1 fun l st2 => th e st2 fun u st3 => rSlD x l u st3 Q
theorem sl_imp : SlR X (fun x lo hi H Q => ∃ dx st hid Qd, DvD X.K (jn st hid) H x dx ∧ Sx X.K st hid H ∧ rSlD dx lo hi st Qd ∧ Go X.K st hid H Qd Q) := by
  intro pins s σ H x v vl vu lo hi sl Q I rx hs pl pu ⟨dx, st, hid, Qd, hx, S, w, k⟩
  unfold rSlD at w
  split at w
  · rename_i xs
    obtain ⟨a, vs, rfl, h1, r1⟩ := tup_at hx
    have l1 := r1.length
    refine sl_tupA pins s σ H _ v vl vu lo hi sl Q I rx hs pl pu ⟨a, vs, rfl, h1, fun z => ?_, fun _ p hp => ?_⟩
    · have e : cutP xs lo hi = xs := by
        unfold cutP
        rw [← l1, z.1, z.2, List.drop_zero, Nat.sub_zero, List.take_of_length_le (Nat.le_of_eq l1.symm)]
      rw [e] at w
      exact k.now S hx w
    · refine k.new S hp (.d (.tup (.inl (.inl upd_same)) ?_)) w
      unfold cutP cutV
      rw [l1]
      exact ((r1.drop _).take _).mono (fr_new hp) S.sr
  · rename_i xs
    obtain ⟨a, vs, rfl, h1, r1⟩ := lstOf_at hx S rfl
    have l1 := Paired.length r1
    refine sl_list pins s σ H _ v vl vu lo hi sl Q I rx hs pl pu ⟨a, vs, rfl, h1, fun p hp => mkL_go (ds := cutP (xs.map D.d) lo hi) (.inl ⟨cutP xs lo hi, by rw [cutP_map]; exact pures_map _, w⟩) S hp ?_ k⟩
    unfold cutP cutV
    rw [l1]
    exact (r1.drop _).take _
  · rename_i ns
    obtain ⟨a, vs, rfl, h1, r1⟩ := lstOf_at hx S rfl
    have l1 := Paired.length r1
    refine sl_list pins s σ H _ v vl vu lo hi sl Q I rx hs pl pu ⟨a, vs, rfl, h1, fun p hp => mkL_go (ds := cutP (ns.map fun n => .d (.int n)) lo hi) (.inl ⟨_, ?_, w⟩) S hp ?_ k⟩
    · rw [cutP_map, show (List.map (fun n => D.d (PyData.int n)) (cutP ns lo hi)) = ((cutP ns lo hi).map PyData.int).map D.d by rw [List.map_map]; rfl]
      exact pures_map _
    · unfold cutP cutV
      rw [l1]
      exact (r1.drop _).take _
  · obtain ⟨ds, e, q⟩ := w
    obtain ⟨a, vs, rfl, h1, r1⟩ := lstOf_at hx S e
    have l1 := Paired.length r1
    refine sl_list pins s σ H _ v vl vu lo hi sl Q I rx hs pl pu ⟨a, vs, rfl, h1, fun p hp => mkL_go q S hp ?_ k⟩
    unfold cutP cutV
    rw [l1]
    exact (r1.drop _).take _
theorem pd_sl {lo hi : Option Expr} {tl th : TOd} (he : PD X e te) (hl : PDO X lo tl) (hu : PDO X hi th) : PD X (.Subscript e (.Slice lo hi none p2) pos) (dSl te tl th) :=
  PE.imp (pe_slice sl_imp he hl hu) fun σ H Q ⟨e, st, hid, Qd, re, S, h, k⟩ => ⟨e, st, hid, _, re, S, h, fun v H1 d st1 F1 S1 r1 h1 => ⟨e, st1, hid, _, re.mono F1 S.sr, S1, h1, fun l H2 st2 F2 S2 h2 =>
    ⟨e, st2, hid, _, re.mono (Fr.trans F1 F2) S.sr, S2, h2, fun u H3 st3 F3 S3 h3 => ⟨d, st3, hid, Qd, r1.mono (Fr.trans F2 F3) S1.sr, S3, h3, k.mono (Fr.trans F1 (Fr.trans F2 F3))⟩⟩⟩⟩
end
/-! ### x[::-1] of a list or a tuple -/
section
variable {prog : Program} {w : World} {A : Around} {E : Value → Shared → Prop} {s : Shared}
theorem back_run (items : Array Value) : ((List.range items.size).filterMap fun (m : Nat) => items[(((items.size : Int) - 1) + (m : Int) * (-1)).toNat]?) = items.toList.reverse := by
  rw [← PySem.W.krv_all items, ← List.filterMap_reverse, ← PySem.W.krv_range, List.filterMap_map]
  have key : ∀ l : List Nat, (∀ m ∈ l, m < items.size) → l.filterMap (fun (m : Nat) => items[(((items.size : Int) - 1) + (m : Int) * (-1)).toNat]?) = l.filterMap ((fun x => items[x]?) ∘ fun k => items.size - 1 - k) := by
    intro l
    induction l with
    | nil => intro _; rfl
    | cons m l ih =>
      intro hl
      have h0 := hl m List.mem_cons_self
      have e : (((items.size : Int) - 1) + (m : Int) * (-1)).toNat = items.size - 1 - m := by omega
      rw [List.filterMap_cons, List.filterMap_cons, ih fun k hk => hl k (List.mem_cons_of_mem _ hk), e]
      rfl
  exact key _ fun m hm => List.mem_range.mp hm
theorem back_adjust (n : Int) : Builtin.Slice.sliceAdjust none none (-1) n = (n - 1, -1) := by
  unfold Builtin.Slice.sliceAdjust
  rfl
theorem back_places (n : Nat) : Builtin.Slice.slicePlaces ((n : Int) - 1) (-1) (-1) = n := by
  unfold Builtin.Slice.slicePlaces
  have e : (-(-1) : Int) = 1 := by decide
  rw [if_neg (by omega), e, Int.ediv_one]
  split <;> omega
theorem back_applied {sl : Addr} {u : Tok} {n : Nat} {Q : Int × Int × Nat → Shared → Prop} (hs : s.heap.IsSliceOf sl .none .none (.int (-1) u)) (h : Q ((n : Int) - 1, -1, n) s) :
    wpAny (model prog w) A (Builtin.Slice.sliceApplied (.ref sl) (pure (n : Int))) Q E s := by
  obtain ⟨os, hos, hcs, hds⟩ := id hs
  unfold Builtin.Slice.sliceApplied Builtin.Slice.sliceFields
  refine wpAny_bind (wpAny_bind (wpAny_field hos hds (x := .none) rfl (wpAny_bind (wpAny_field hos hds (x := .none) rfl (wpAny_bind (wpAny_field hos hds (x := .int (-1) u) rfl (wpAny_pure ?_)))))))
  refine wpAny_bind (HT.slicePart_ (.int (-1) u) ?_)
  show wpAny _ _ (if ((-1 : Int) == 0) = true then _ else _) _ _ s
  rw [if_neg (by decide)]
  refine wpAny_bind (HT.slicePart_ .none (wpAny_bind (HT.slicePart_ .none (wpAny_bind (wpAny_pure ?_)))))
  show wpAny _ _ (match Builtin.Slice.sliceAdjust none none (-1) (n : Int) with | (lo, hi) => pure (lo, (-1 : Int), Builtin.Slice.slicePlaces lo hi (-1))) _ _ s
  rw [back_adjust]
  show wpAny _ _ (pure ((n : Int) - 1, (-1 : Int), Builtin.Slice.slicePlaces ((n : Int) - 1) (-1) (-1))) _ _ s
  rw [back_places]
  exact wpAny_pure h
theorem back_tuple {t sl : Addr} {items : Array Value} {u : Tok} {Q : Value → Shared → Prop} (ht : IsTup s.heap t items) (hs : s.heap.IsSliceOf sl .none .none (.int (-1) u))
    (h : Q (.ref s.heap.objs.size) { s with heap := s.heap.push { cls := .type "tuple", data := .seq items.toList.reverse.toArray } }) (hsz : items.size ≤ sizeLine) :
    wpAny (model prog w) A (getItem (.ref t) (.ref sl)) Q E s := by
  have hok : sizeOk (.seq items.toList.reverse.toArray) := by
    show items.toList.reverse.toArray.size ≤ sizeLine
    rw [List.size_toArray, List.length_reverse, Array.length_toList]
    exact hsz
  obtain ⟨os, hos, hcs, hds⟩ := id hs
  have hTs : s.TypeIs (.ref sl) "slice" := ⟨os, hos, hcs⟩
  unfold getItem
  try with_reducible refine wpAny_holding ?_
  first | refine wpAny_bind (wpAny_pure ?_) | skip
  refine wpAny_bind (wpAny_sequenceKey ht.typeIs (by decide) ?_)
  refine wpAny_bind (wpAny_callSpecial?_slot (name := Str.ofString "__getitem__") ht.typeIs PyProof.Rows.slot_tuple_getitem (wpAny_call_entry PyProof.Rows.slot_tuple_getitem ht.typeIs entry_tuple_getitem ?_ (args_tuple_getitem _ _)))
  show wpAny _ _ (Builtin.Tuple.tupleItemsOf (.ref t) >>= _) _ _ s
  refine wpAny_bind (tupleItemsOf_ ht (wpAny_bind (wpAny_typeOf hTs ?_)))
  rw [if_pos (by decide)]
  refine wpAny_bind (back_applied hs ?_)
  show wpAny _ _ (if ((((items.size : Int) - 1) == 0 && (-1 : Int) == 1) && items.size == items.size) = true then _ else _) _ _ s
  rw [if_neg (by rw [show ((-1 : Int) == 1) = false by decide, Bool.and_false, Bool.false_and]; decide), back_run]
  first
    | exact wpAny_bind (m := Builtin.Tuple.tupleExact _) (wpAny_newObj_type (wpAny_pure ⟨_, rfl, wpAny_pure h⟩) hok)
    | exact wpAny_bind (m := Builtin.Tuple.tupleExact _) (wpAny_newObj_type (wpAny_bind (wpAny_pure (wpAny_pure ⟨_, rfl, wpAny_pure h⟩))) hok)
    | exact wpAny_bind (wpAny_bind (m := Builtin.Tuple.tupleExact _) (wpAny_newObj_type (wpAny_pure (wpAny_pure ⟨_, rfl, wpAny_pure h⟩)) hok))
    | exact wpAny_bind (wpAny_bind (m := Builtin.Tuple.tupleExact _) (wpAny_newObj_type (wpAny_pure ⟨_, rfl, wpAny_pure h⟩) hok))
end
section
variable {X : Cx} {pos p p2 : Pos} {a b c e : Expr} {es rest : List Expr} {ta tb tc te : TEd} {t : TAd}
def dRev (te : TEd) : TEd := fun e st Q => te e st fun x st1 => match x with
  | .d (.tuple xs) => Q (.d (.tuple xs.reverse)) st1
  | x => ∃ ds, lstOf x st1 = some ds ∧ mkL ds.reverse st1 Q
theorem pd_rev {k : Nat} {p1 p2 p3 : Pos} (he : PD X e te) : PD X (.Subscript e (.Slice none none (some (.UnaryOp .USub (.Constant (.int 1) k p1) p2)) p3) pos) (dRev te) := by
  refine ⟨fun pins s σ H Q I ⟨en, st, hid, Qd, re, S, h, kk⟩ => ?_⟩
  refine Subscript_ (thn (he.run pins s σ H (fun x H1 => ∃ d st1, FrX st hid H st1 H1 ∧ Sx X.K st1 hid H1 ∧ DvD X.K (jn st1 hid) H1 x d ∧ (match d with
    | .d (.tuple xs) => Qd (.d (.tuple xs.reverse)) st1
    | x => ∃ ds, lstOf x st1 = some ds ∧ mkL ds.reverse st1 Qd)) I ⟨en, st, hid, _, re, S, h, fun v H' d st' F S r q => ⟨d, st', F, S, r, q⟩⟩) fun v s1 ⟨x, H1, I1, r1, d, st1, F1, S1, r, q1⟩ => ?_)
  have hst : PO X (some (.UnaryOp .USub (.Constant (.int 1) k p1) p2)) (tPart (tUn (rU fun i => .int (-i)) (tC (.int 1)))) := po_some (pe_un un_neg pe_int)
  refine wpAny_Slice (thn (po_none.run pins s1 σ H1 (fun o H2 => o = none ∧ H2 = H1) I1 ⟨rfl, rfl⟩) fun vl s2 ⟨l, H2, I2, pl, el, e2⟩ => ?_)
  subst el e2
  refine thn (po_none.run pins s2 σ H2 (fun o H3 => o = none ∧ H3 = H2) I2 ⟨rfl, rfl⟩) fun vu s3 ⟨u, H3, I3, pu, eu, e3⟩ => ?_
  subst eu e3
  refine thn (hst.run pins s3 σ H3 (fun o H4 => o = some (-1) ∧ H4 = H3) I3 ⟨1, rfl, -1, rfl, rfl, rfl⟩) fun vs s4 ⟨o, H4, I4, ps, eo, e4⟩ => ?_
  subst eo e4
  have I5 : Inv X pins σ H4 { s4 with heap := s4.heap.push { cls := .type "slice", data := .fields #[vl, vu, vs] } } := I4.kept (t' := s4.toks) fun b ob q => Heap.get?_push_of_some _ q
  cases pl
  cases pu
  rcases ps with _ | ⟨_, tk⟩
  split at q1
  · rename_i xs
    obtain ⟨a, ws, rfl, h1, r2⟩ := tup_at r
    cases r1
    obtain ⟨its, rv, ht, hz⟩ := I5.tuple h1
    have hlen := rv.length
    show wpAny (model X.prog X.w) X.A (subscriptTail e (.Slice none none (some (.UnaryOp .USub (.Constant (.int 1) k p1) p2)) p3) (.ref a) (.ref s4.heap.objs.size)) (EP X pins σ Q) X.xe { s4 with heap := s4.heap.push { cls := .type "slice", data := .fields #[.none, .none, .int (-1) tk] } }
    refine tail_any (ops := [.ref a, .ref s4.heap.objs.size]) ht.typeIs (PyProof.Rows.slot_tuple_getitem.lookup) ?_ (by with_unfolding_all rfl)
    refine back_tuple ht (Heap.IsSliceOf.new _ .none .none (.int (-1) tk)) ?_ (by rw [List.size_toArray]; omega)
    have hn := I5.hok.fresh (Nat.le_refl _)
    refine ⟨.ref _, _, I5.laid (t' := s4.toks) (o := .tup ws.reverse) (fun b ob q => Heap.get?_push_of_some _ q) (Nat.le_refl _) ?_, rfl, (Go.mono kk F1).new S1 hn (.d (.tup (.inl (.inl upd_same)) (Dvs.of ?_))) q1⟩
    · exact ⟨by rw [List.length_reverse]; exact hz, _, rv.reverse, IsTup.new _ _⟩
    · rw [List.map_reverse]
      exact ((Dvs.to r2).reverse).mono (fr_new hn) S1.sr
  · obtain ⟨ds, e1, q⟩ := q1
    obtain ⟨a, ws, rfl, h1, r2⟩ := lstOf_at r S1 e1
    cases r1
    obtain ⟨its, rv, ht, hz⟩ := I5.list h1
    have hlen := rv.length
    show wpAny (model X.prog X.w) X.A (subscriptTail e (.Slice none none (some (.UnaryOp .USub (.Constant (.int 1) k p1) p2)) p3) (.ref a) (.ref s4.heap.objs.size)) (EP X pins σ Q) X.xe { s4 with heap := s4.heap.push { cls := .type "slice", data := .fields #[.none, .none, .int (-1) tk] } }
    refine tail_any (ops := [.ref a, .ref s4.heap.objs.size]) ht.isList.typeIs (PySem.slot_list_getitem.lookup) ?_ (by with_unfolding_all rfl)
    refine wpAny_getItem_list_slice ht.isList (Heap.IsSliceOf.new _ .none .none (.int (-1) tk)) .none .none (.int (-1) tk) (by decide) ?_ (by rw [List.size_toArray]; omega)
    rw [PySem.W.krv_pick]
    have hn := I5.hok.fresh (Nat.le_refl _)
    refine ⟨.ref _, _, I5.laid (t' := s4.toks) (o := .lst ws.reverse) (fun b ob q => Heap.get?_push_of_some _ q) (Nat.le_refl _) ?_, rfl, mkL_go q S1 hn r2.reverse (Go.mono kk F1)⟩
    exact ⟨by rw [List.length_reverse]; exact hz, _, 0, rv.reverse, Heap.get?_push_size _ rfl⟩
end
end DL
namespace DL
open PySem PySem.Spec PyProof.Rows L2
variable [Tabs]
/-! ### calls of what is built in -/
/-- 2 ^ 9000 -/
def big9 : Nat := 2 ^ 9000
abbrev RCd := List D → Sto → Kd → Prop
def upC (K : PySem.W.Frag) (r : RCd) : List V → Hp → VK → Prop := fun vs H Q => ∃ ds st hid Qd, DvsD K (jn st hid) H vs ds ∧ Sx K st hid H ∧ r ds st Qd ∧ Go K st hid H Qd Q
def dCall (r : RCd) (t : TAd) : TEd := fun e st Q => t e st fun ds st1 => r ds st1 Q
theorem CallR.imp {X : Cx} {f : Value} {r r' : List V → Hp → VK → Prop} (h : CallR X f r) (i : ∀ xs H Q, r' xs H Q → r xs H Q) : CallR X f r' := fun pins s σ H xs us Q I rx q => h pins s σ H xs us Q I rx (i xs H Q q)
section
variable {X : Cx} {x : Str} {id T : String} {pos p p2 : Pos} {a b c e : Expr} {es rest : List Expr} {ta tb tc te : TEd} {t : TAd} {r : RCd}
theorem call_imp {K : PySem.W.Frag} {σ : L2.St} {H : Hp} {Q : VK} (w : up K (dCall r t) σ H Q) : tCB (upC K r) (upA K t) σ H Q := by
  obtain ⟨e, st, hid, Qd, re, S, h, k⟩ := w
  exact ⟨e, st, hid, _, re, S, h, fun vs H1 ds st1 F1 S1 r1 h1 => ⟨ds, st1, hid, Qd, r1, S1, h1, k.mono F1⟩⟩
theorem pd_callB (hc : CallR X (.builtin id) (upC X.K r)) (hg : Gl X x) (hm : X.mg x = none) (hv : bootBuiltins x = some (.builtin id)) (ha : PDA X (e :: es) t) (hn : x ≠ "__name__" := by decide) (hdb : (x == ("__debug__" : Str)) = false := by decide)
    (he : starEach (e :: es) X.env = (false, eval e X.env) :: starEach es X.env := by rfl) (hpl : (backTo pos (starEach es X.env)).any (·.1) = false := by rfl) : PD X (.Call (.Name x p) (e :: es) [] pos) (dCall r t) :=
  PE.imp (pe_callB hc hg hm hv ha hn hdb he hpl) fun _ _ _ => call_imp
theorem pd_callTy (hc : CallR X (.type T) (upC X.K r)) (hg : Gl X x) (hm : X.mg x = none) (hv : bootBuiltins x = some (.type T)) (ha : PDA X (e :: es) t) (hn : x ≠ "__name__" := by decide) (hdb : (x == ("__debug__" : Str)) = false := by decide)
    (he : starEach (e :: es) X.env = (false, eval e X.env) :: starEach es X.env := by rfl) (hpl : (backTo pos (starEach es X.env)).any (·.1) = false := by rfl) : PD X (.Call (.Name x p) (e :: es) [] pos) (dCall r t) :=
  PE.imp (pe_callTy hc hg hm hv ha hn hdb he hpl) fun _ _ _ => call_imp
theorem pd_callM (hc : CallR X (.builtin id) (upC X.K r)) (hg : Gl X x) (hm : X.mg x = some (.builtin id)) (ha : PDA X (e :: es) t) (hdb : (x == ("__debug__" : Str)) = false := by decide)
    (he : starEach (e :: es) X.env = (false, eval e X.env) :: starEach es X.env := by rfl) (hpl : (backTo pos (starEach es X.env)).any (·.1) = false := by rfl) : PD X (.Call (.Name x p) (e :: es) [] pos) (dCall r t) :=
  PE.imp (pe_callBfun hc hg hm ha hdb he hpl) fun _ _ _ => call_imp
theorem DvsD.one {K : PySem.W.Frag} {st : Sto} {H : Hp} {vs : List V} {d : D} (r : DvsD K st H vs [d]) : ∃ v, vs = [v] ∧ DvD K st H v d := by
  cases r with
  | cons h t =>
    cases t
    exact ⟨_, rfl, h⟩
theorem DvsD.two {K : PySem.W.Frag} {st : Sto} {H : Hp} {vs : List V} {d d' : D} (r : DvsD K st H vs [d, d']) : ∃ v v', vs = [v, v'] ∧ DvD K st H v d ∧ DvD K st H v' d' := by
  cases r with
  | cons h t =>
    cases t with
    | cons h' t' =>
      cases t'
      exact ⟨_, _, rfl, h, h'⟩
/-- of one int -/
def rC1 (C : Int → Prop) (g : Int → PyData) : RCd := fun ds st Q => match ds with
  | [.d (.int i)] => C i ∧ Q (.d (g i)) st
  | _ => False
def rC2 (C : Int → Int → Prop) (g : Int → Int → PyData) : RCd := fun ds st Q => match ds with
  | [.d (.int i), .d (.int j)] => C i j ∧ Q (.d (g i j)) st
  | _ => False
theorem rC1_at {K : PySem.W.Frag} {C : Int → Prop} {g : Int → PyData} {vs : List V} {ds : List D} {st hid : Sto} {H : Hp} {Q : Kd} (r : DvsD K (jn st hid) H vs ds) (h : rC1 C g ds st Q) : ∃ i, vs = [.int i] ∧ C i ∧ Q (.d (g i)) st := by
  unfold rC1 at h
  split at h
  · obtain ⟨v, rfl, r1⟩ := r.one
    cases int_at r1
    exact ⟨_, rfl, h.1, h.2⟩
  · exact h.elim
theorem rC2_at {K : PySem.W.Frag} {C : Int → Int → Prop} {g : Int → Int → PyData} {vs : List V} {ds : List D} {st hid : Sto} {H : Hp} {Q : Kd} (r : DvsD K (jn st hid) H vs ds) (h : rC2 C g ds st Q) : ∃ i j, vs = [.int i, .int j] ∧ C i j ∧ Q (.d (g i j)) st := by
  unfold rC2 at h
  split at h
  · obtain ⟨v, v', rfl, r1, r2⟩ := r.two
    cases int_at r1
    cases int_at r2
    exact ⟨_, _, rfl, h.1, h.2⟩
  · exact h.elim
def cAbs : RCd := rC1 (fun _ => True) fun i => .int (if i < 0 then -i else i)
def cInt : RCd := rC1 (fun _ => True) fun i => .int i
def cStrI : RCd := rC1 (fun i => i.natAbs.log2 < 1920) fun i => .str (toString i)
def cDivmod : RCd := rC2 CDivP fun i j => .tuple [.int (i / j), .int (i % j)]
def cMin : RCd := rC2 (fun _ _ => True) fun i j => .int (if j < i then j else i)
def cMax : RCd := rC2 (fun _ _ => True) fun i j => .int (if j > i then j else i)
def cGcd : RCd := rC2 (fun _ _ => True) fun i j => .int ((Nat.gcd i.natAbs j.natAbs : Nat) : Int)
def cLcm : RCd := rC2 (fun i j => i.natAbs < big9 ∧ j.natAbs < big9) fun i j => .int ((Nat.lcm i.natAbs j.natAbs : Nat) : Int)
theorem c_abs : CallR X (.builtin "abs") (upC X.K cAbs) := CallR.imp call_abs fun vs H Q ⟨ds, st, hid, Qd, r, S, w, k⟩ => by
  obtain ⟨i, rfl, _, q⟩ := rC1_at r w
  exact ⟨i, rfl, k.now S (.d (.int _)) q⟩
theorem c_int : CallR X (.type "int") (upC X.K cInt) := CallR.imp call_int1 fun vs H Q ⟨ds, st, hid, Qd, r, S, w, k⟩ => by
  obtain ⟨i, rfl, _, q⟩ := rC1_at r w
  exact .inl ⟨i, rfl, k.now S (.d (.int _)) q⟩
theorem c_str : CallR X (.type "str") (upC X.K cStrI) := CallR.imp call_str_int fun vs H Q ⟨ds, st, hid, Qd, r, S, w, k⟩ => by
  obtain ⟨i, rfl, h, q⟩ := rC1_at r w
  exact ⟨i, rfl, h, k.now S (.d (.str _)) q⟩
theorem c_min (hc : X.calm = true) : CallR X (.builtin "min") (upC X.K cMin) := CallR.imp (call_min2 hc) fun vs H Q ⟨ds, st, hid, Qd, r, S, w, k⟩ => by
  obtain ⟨i, j, rfl, _, q⟩ := rC2_at r w
  exact ⟨i, j, rfl, k.now S (.d (.int _)) q⟩
theorem c_max (hc : X.calm = true) : CallR X (.builtin "max") (upC X.K cMax) := CallR.imp (call_max2 hc) fun vs H Q ⟨ds, st, hid, Qd, r, S, w, k⟩ => by
  obtain ⟨i, j, rfl, _, q⟩ := rC2_at r w
  exact ⟨i, j, rfl, k.now S (.d (.int _)) q⟩
theorem c_gcd : CallR X (.builtin "math.gcd") (upC X.K cGcd) := CallR.imp cr_gcd fun vs H Q ⟨ds, st, hid, Qd, r, S, w, k⟩ => by
  obtain ⟨i, j, rfl, _, q⟩ := rC2_at r w
  exact ⟨i, j, rfl, k.now S (.d (.int _)) q⟩
theorem c_divmod : CallR X (.builtin "divmod") (upC X.K cDivmod) := CallR.imp call_divmodW fun vs H Q ⟨ds, st, hid, Qd, r, S, w, k⟩ => by
  obtain ⟨i, j, rfl, h, q⟩ := rC2_at r w
  exact ⟨i, j, rfl, h, fun p hp => k.new S hp (.d (.tup (.inl (.inl upd_same)) (.cons (.int _) (.cons (.int _) .nil)))) q⟩
theorem big_log {n : Nat} (h : n < big9) : ¬ n.log2 / 30 + 1 > 450 := by
  unfold big9 at h
  have := PySem.W.mg_log (k := 8999) h
  omega
theorem c_lcm : CallR X (.builtin "math.lcm") (upC X.K cLcm) := fun pins s σ H vs us Q I rx ⟨ds, st, hid, Qd, r, S, w, k⟩ => by
  obtain ⟨i, j, rfl, ⟨hi, hj⟩, q⟩ := rC2_at r w
  obtain ⟨t, u, rfl⟩ := Vals.int2 rx
  have one : Nat.lcm 1 i.natAbs = i.natAbs := PySem.W.mc_lcm_one _
  have p1 : (1 : Nat) < big9 := by
    unfold big9
    exact Nat.one_lt_two_pow (by decide)
  have hm : max 1 i.natAbs < big9 := Nat.max_lt.mpr ⟨p1, hi⟩
  have hm2 : max i.natAbs j.natAbs < big9 := Nat.max_lt.mpr ⟨hi, hj⟩
  have hl : (i.natAbs.lcm j.natAbs).log2 < bitsLine := PySem.W.mc_size (k := 300) (Nat.le_trans (PySem.W.mc_lcm_le _ _) (by
    have h1 : i.natAbs * j.natAbs ≤ big9 * big9 := Nat.mul_le_mul (Nat.le_of_lt hi) (Nat.le_of_lt hj)
    unfold big9 at h1
    rw [← Nat.pow_add] at h1
    exact Nat.le_trans h1 (Nat.pow_le_pow_right (by decide) (by decide)))) (by decide)
  have g := PySem.W.mg_run_lcm i t j u (big_log hm) (big_log hm2) (by rw [one]; exact hl)
  rw [one] at g
  exact PySem.call_function_meets PySem.W.MGF.kind_lcm PySem.W.MGF.plain_lcm PySem.W.MGF.entry_lcm (PySem.W.MGF.args_lcm _ _) g.meets ⟨.int _, H, I.tok _, ⟨_, rfl⟩, k.now S (.d (.int _)) q⟩
def cLen : RCd := fun ds st Q => match ds with
  | [.d (.tuple xs)] => Q (.d (.int xs.length)) st
  | [.d (.str z)] => z.length ≤ sizeLine ∧ Q (.d (.int z.length)) st
  | [x] => ∃ ds, lstOf x st = some ds ∧ Q (.d (.int ds.length)) st
  | _ => False
theorem c_len : CallR X (.builtin "len") (upC X.K cLen) := fun pins s σ H vs us Q I rx ⟨ds, st, hid, Qd, r, S, w, k⟩ => by
  unfold cLen at w
  split at w
  · obtain ⟨v, rfl, r1⟩ := r.one
    obtain ⟨a, ws, rfl, h1, r2⟩ := tup_at r1
    rw [← r2.length] at w
    exact call_len_seq pins s σ H _ us Q I rx ⟨a, ws, rfl, .inr h1, k.now S (.d (.int _)) w⟩
  · obtain ⟨v, rfl, r1⟩ := r.one
    cases str_at r1
    exact call_len_str pins s σ H _ us Q I rx ⟨_, rfl, w.1, k.now S (.d (.int _)) w.2⟩
  · obtain ⟨v, rfl, r1⟩ := r.one
    obtain ⟨ds, e, q⟩ := w
    obtain ⟨a, ws, rfl, h1, r2⟩ := lstOf_at r1 S e
    rw [← Paired.length r2] at q
    exact call_len_seq pins s σ H _ us Q I rx ⟨a, ws, rfl, .inl h1, k.now S (.d (.int _)) q⟩
  · exact w.elim
theorem bools_at {K : PySem.W.Frag} {st : Sto} {H : Hp} : ∀ {vs : List V} {bs : List Bool}, DvsD K st H vs (bs.map fun b => .d (.bool b)) → vs = bs.map V.bl
  | [], [], _ => rfl
  | _ :: _, b :: bs, .cons (.d h) t => by
    cases h
    rw [bools_at t]
    rfl
def cAll : RCd := fun ds st Q => match ds with
  | [x] => ∃ bs : List Bool, lstOf x st = some (bs.map fun b => .d (.bool b)) ∧ Q (.d (.bool (bs.all _root_.id))) st
  | _ => False
theorem c_all (hc : X.calm = true) : CallR X (.builtin "all") (upC X.K cAll) := CallR.imp (cr_all hc) fun vs H Q ⟨ds, st, hid, Qd, r, S, w, k⟩ => by
  unfold cAll at w
  split at w
  · obtain ⟨v, rfl, r1⟩ := r.one
    obtain ⟨bs, e, q⟩ := w
    obtain ⟨a, ws, rfl, h1, r2⟩ := lstOf_at r1 S e
    rw [bools_at r2] at h1
    exact ⟨a, bs, rfl, h1, k.now S (.d (.bl _)) q⟩
  · exact w.elim
/-- list(x) -/
def cList : RCd := fun ds st Q => match ds with
  | [.d (.tuple xs)] => mkL (xs.map D.d) st Q
  | [x] => ∃ ds, lstOf x st = some ds ∧ mkL ds st Q
  | _ => False
theorem c_list : CallR X (.type "list") (upC X.K cList) := CallR.imp call_list_of fun vs H Q ⟨ds, st, hid, Qd, r, S, w, k⟩ => by
  unfold cList at w
  split at w
  · obtain ⟨v, rfl, r1⟩ := r.one
    obtain ⟨a, ws, rfl, h1, r2⟩ := tup_at r1
    exact ⟨a, ws, rfl, .inr h1, fun l hl => mkL_go w S hl (Dvs.to r2) k⟩
  · obtain ⟨v, rfl, r1⟩ := r.one
    obtain ⟨ds, e, q⟩ := w
    obtain ⟨a, ws, rfl, h1, r2⟩ := lstOf_at r1 S e
    exact ⟨a, ws, rfl, .inl h1, fun l hl => mkL_go q S hl r2 k⟩
  · exact w.elim
/-- .. as a value -/
def cListV : RCd := fun ds st Q => match ds with
  | [.d (.tuple xs)] => Q (.d (.list xs)) st
  | [.d (.list xs)] => Q (.d (.list xs)) st
  | [x] => ∃ xs : List PyData, lstOf x st = some (xs.map D.d) ∧ Q (.d (.list xs)) st
  | _ => False
theorem c_listV : CallR X (.type "list") (upC X.K cListV) := CallR.imp c_list fun vs H Q ⟨ds, st, hid, Qd, r, S, w, k⟩ => by
  refine ⟨ds, st, hid, Qd, r, S, ?_, k⟩
  unfold cListV at w
  split at w
  · exact .inl ⟨_, pures_map _, w⟩
  · exact ⟨_, rfl, .inl ⟨_, pures_map _, w⟩⟩
  · rename_i x n1 n2
    obtain ⟨xs, e, q⟩ := w
    unfold cList
    split
    · rename_i h
      cases h
      exact absurd rfl (n1 _)
    · rename_i h
      cases h
      exact ⟨_, e, .inl ⟨_, pures_map _, q⟩⟩
    · rename_i n4
      exact absurd rfl (n4 x)
  · exact w.elim
/-- tuple(x) -/
def cTuple : RCd := fun ds st Q => match ds with
  | [.d (.tuple xs)] => Q (.d (.tuple xs)) st
  | [x] => ∃ xs : List PyData, lstOf x st = some (xs.map D.d) ∧ Q (.d (.tuple xs)) st
  | _ => False
theorem c_tuple : CallR X (.type "tuple") (upC X.K cTuple) := CallR.imp call_tuple_of fun vs H Q ⟨ds, st, hid, Qd, r, S, w, k⟩ => by
  unfold cTuple at w
  split at w
  · obtain ⟨v, rfl, r1⟩ := r.one
    obtain ⟨a, ws, rfl, h1, r2⟩ := tup_at r1
    exact ⟨a, ws, rfl, .inr ⟨h1, k.now S r1 w⟩⟩
  · obtain ⟨v, rfl, r1⟩ := r.one
    obtain ⟨xs, e, q⟩ := w
    obtain ⟨a, ws, rfl, h1, r2⟩ := lstOf_at r1 S e
    exact ⟨a, ws, rfl, .inl ⟨h1, fun l hl => k.new S hl (.d (.tup (.inl (.inl upd_same)) ((Dvs.of r2).mono (fr_new hl) S.sr))) q⟩⟩
  · exact w.elim
/-- repr(x) -/
def cRepr : RCd := fun ds st Q => match ds with
  | [.d x] => x.hasDict = false ∧ x.showable = true ∧ x.shown.length ≤ sizeLine ∧ x.depth ≤ 64 ∧ Q (.d (.str x.shown)) st
  | _ => False
theorem c_repr (hG : X.A.guards = some []) (hu : X.A.units + 65 < cLine) : CallR X (.builtin "repr") (upC X.K cRepr) := fun pins s σ H vs us Q I rx ⟨ds, st, hid, Qd, r, S, w, k⟩ => by
  unfold cRepr at w
  split at w
  · rename_i x
    obtain ⟨v, rfl, r1⟩ := r.one
    obtain ⟨h1, h2, h3, h4, q⟩ := w
    cases r1 with
    | d r1 =>
      obtain ⟨u, rfl, ru⟩ := vals1 rx
      have fin : ∀ {h' : Heap} {uu : Tok} {tk : Nat}, (∀ b o, s.heap.get? b = some o → h'.get? b = some o) → EP X pins σ Q (.str x.shown uu) { s with heap := h', toks := tk } := fun {h' uu tk} kp => ⟨.str _, H, I.kept kp, ⟨_, rfl⟩, k.now S (.d (.str _)) q⟩
      cases r1 with
      | non =>
        cases ru
        exact PySem.P.repr_of_none (fin fun _ _ e => e)
      | bl b =>
        cases ru
        have := fin (h' := s.heap) (uu := s.toks) (tk := s.toks + 1) fun _ _ e => e
        rw [PyData.shown_bool] at this
        exact PySem.P.repr_of_bool this
      | int i =>
        obtain ⟨t, rfl⟩ := ru
        have := fin (h' := s.heap) (uu := s.toks) (tk := s.toks + 1) fun _ _ e => e
        rw [PyData.shown_int] at this
        exact PySem.P.repr_of_int (by simpa [PyData.showable] using h2) this
      | str i =>
        obtain ⟨t, rfl⟩ := ru
        have := fin (h' := s.heap) (uu := s.toks) (tk := s.toks + 1) fun _ _ e => e
        rw [PyData.shown_str] at this h3
        exact PySem.P.repr_of_str this h3
      | lst h f rr =>
        cases ru
        obtain ⟨as, rd⟩ := Dp.reads I _ _ _ ((Dv.lst h f rr).dp h1) rfl
        exact repr_of_reads' rd h2 (fun z => by rw [h1] at z; cases z) hG (by omega) (fun _ _ e => e) (fun h' u tk kp => fin kp) h3
      | tup h rr =>
        cases ru
        obtain ⟨as, rd⟩ := Dp.reads I _ _ _ ((Dv.tup h rr).dp h1) rfl
        exact repr_of_reads' rd h2 (fun z => by rw [h1] at z; cases z) hG (by omega) (fun _ _ e => e) (fun h' u tk kp => fin kp) h3
      | dic h f rr qq =>
        cases h1
  · exact w.elim
/-! ### isinstance(x, T) -/
def tyD : D → String
  | .d .none => "NoneType"
  | .d (.bool _) => "bool"
  | .d (.int _) => "int"
  | .d (.str _) => "str"
  | .d (.tuple _) => "tuple"
  | .d (.dict _) => "dict"
  | .obj _ => "no type"
  | .tp _ => "tuple"
  | _ => "list"
theorem kit_none {T : String} (h : T ≠ "no type") : kitB "no type" T = none := by
  unfold kitB
  rw [if_neg (fun z => h (by
    have e := beq_iff_eq.mp z
    cases e
    rfl))]
  split
  · have e : PySem.fastBuiltinMro "no type" = none := by decide +kernel
    rw [e]
    rfl
  · rfl
def isT (T : String) (d : D) : Bool := (kitB (tyD d) T).getD false
theorem ty_at {K : PySem.W.Frag} {st : Sto} {H : Hp} {v : V} {d : D} (r : DvD K st H v d) (S : SR K st H) (hn : ∀ a, d ≠ .obj a) : TyX K H v (.type (tyD d)) := by
  cases r with
  | obj a => exact absurd rfl (hn a)
  | tp h r =>
    rcases h with (h | ⟨o, h⟩) | ⟨o, its, n, h, hc, _⟩
    · exact .base (.tup h)
    · exact .fTuple h
    · exact .kTuple h hc
  | own a l =>
    obtain ⟨xs, h⟩ := l
    exact .base (.lst h)
  | scr h f =>
    rcases h with (h | ⟨o, h⟩) | ⟨o, its, n, h, hc, _⟩
    · exact .base (.lst h)
    · exact .base (.frz h)
    · exact .kList h hc
  | d h =>
    cases h with
    | non => exact .base .non
    | bl b => exact .base (.bl b)
    | int i => exact .base (.int i)
    | str i => exact .base (.str i)
    | lst h f r => exact .base (.lst h)
    | dic h f r q => exact .base (.dK h)
    | tup h r =>
      rcases h with (h | ⟨o, h⟩) | ⟨o, its, n, h, hc, _⟩
      · exact .base (.tup h)
      · exact .fTuple h
      · exact .kTuple h hc
def dIs (T : String) (te : TEd) : TEd := fun e st Q => te e st fun d st1 => (∀ a, d = .own a → (st1 a).isSome = true) ∧ (kitB (tyD d) T).isSome = true ∧ Q (.d (.bool (isT T d))) st1
theorem pd_is {y : Str} (hg : Gl X "isinstance") (hm : X.mg "isinstance" = none) (hg2 : Gl X y) (hm2 : X.mg y = none) (hv2 : bootBuiltins y = some (.type T)) (he : PD X e te) (hv : bootBuiltins "isinstance" = some (.builtin "isinstance") := by rfl) (hnT : T ≠ "no type" := by decide)
    (hn2 : y ≠ "__name__" := by decide) (hd2 : (y == ("__debug__" : Str)) = false := by decide)
    (h1 : starEach [.Name y p2] X.env = [(false, eval (.Name y p2) X.env)] := by rfl) (hs : starEach [e, .Name y p2] X.env = (false, eval e X.env) :: starEach [.Name y p2] X.env := by rfl) (hpl : (backTo pos (starEach [.Name y p2] X.env)).any (·.1) = false := by rfl) :
    PD X (.Call (.Name "isinstance" p) [e, .Name y p2] [] pos) (dIs T te) :=
  PE.imp (pe_callB call_isi hg hm hv (pa_cons he (pa_cons (pe_bltn (v := .ty T) hg2 hm2 hv2 rfl hn2 hd2) pa_nil h1) hs) (by decide) (by decide) hs hpl) fun σ H Q ⟨e, st, hid, Qd, re, S, h, k⟩ => ⟨e, st, hid, _, re, S, h, fun v H1 d st1 F1 S1 r ⟨h0, h1, q⟩ => by
    obtain ⟨b, hb⟩ := Option.isSome_iff_exists.mp h1
    have eb : isT T d = b := by
      unfold isT
      rw [hb]
      rfl
    rw [eb] at q
    exact ⟨v, .ty T, .type (tyD d), .type T, b, rfl, .ty T, ty_at r S1.sr (fun a z => by
      subst z
      have : kitB "no type" T = some b := hb
      rw [kit_none hnT] at this
      cases this), kit_ty hb, (Go.mono k F1).now S1 (.d (.bl b)) q⟩⟩
end
end DL
namespace DL
open PySem PySem.Spec PyProof.Rows L2
variable [Tabs]
/-! ### what is walked -/
structure ItD where
  xs : List D
  dep : Option (Addr × List D) := none
def ItD.at (it : ItD) (st : Sto) : Prop := ∀ a ds, it.dep = some (a, ds) → st a = some ds
/-- J walks just these, whatever is laid meanwhile -/
def ItOk (K : PySem.W.Frag) (F0 : Sto) (H0 : Hp) (J : It) (it : ItD) : Prop := ∀ (i : Nat) (F : Sto) (H : Hp), Fr F0 H0 F H → SR K F H → it.at F →
  (∀ d, it.xs[i]? = some d → J.go i H ∧ ∀ x H', J.yld i H x H' → Fr F H F H' ∧ SR K F H' ∧ DvD K F H' x d) ∧ (it.xs.length ≤ i → J.stop i H)
abbrev TId := Ed → Sto → (ItD → Sto → Prop) → Prop
def upI (K : PySem.W.Frag) (t : TId) : TI := fun σ H R => ∃ e st hid Rd, RE K (jn st hid) H σ e ∧ Sx K st hid H ∧ t e st Rd ∧ ∀ J H' it st', FrX st hid H st' H' → Sx K st' hid H' → ItOk K (jn st' hid) H' J it → it.at st' → Rd it st' → R J H'
abbrev PDI (X : Cx) (tg iter : Expr) (t : TId) : Prop := PI X tg iter (upI X.K t)
theorem PI.imp {X : Cx} {tg iter : Expr} {t t' : TI} (h : PI X tg iter t) (i : ∀ σ H Q, t' σ H Q → t σ H Q) : PI X tg iter t' := ⟨fun pins s σ H Q I w => h.run pins s σ H Q I (i σ H Q w)⟩
def dIter (te : TEd) : TId := fun e st R => te e st fun d st1 => match d with
  | .d (.tuple xs) => R ⟨xs.map D.d, none⟩ st1
  | .d (.list xs) => R ⟨xs.map D.d, none⟩ st1
  | .own a => ∃ ds, st1 a = some ds ∧ R ⟨ds, some (a, ds)⟩ st1
  | .scr ns => R ⟨ns.map fun n => .d (.int n), none⟩ st1
  | _ => False
section
variable {K : PySem.W.Frag} {F0 : Sto} {H0 : Hp} {a : Addr}
theorem Fr.same {F : Sto} {H : Hp} {H' : Hp} (e : H' = H) : Fr F H F H' := by
  subst e
  exact Fr.refl _ _
theorem itok_tup {vs : List V} {xs : List PyData} (h : SqT K H0 a vs) (r : Dvs K F0 H0 vs xs) (S0 : SR K F0 H0) : ItOk K F0 H0 (Itt K a) ⟨xs.map D.d, none⟩ := fun i F H fr S _ => by
  have h' := sqT_mono fr S0 h
  have r' := r.mono fr S0
  refine ⟨fun d e => ?_, fun z => ⟨vs, h', by
    have z' : (xs.map D.d).length ≤ i := z
    rw [List.length_map] at z'
    rw [r'.length]
    exact z'⟩⟩
  obtain ⟨v, e1, r1⟩ := (Dvs.to r').get e
  refine ⟨⟨vs, v, h', e1⟩, fun x H' ⟨eh, y⟩ => ?_⟩
  subst eh
  have e2 := y vs h'
  rw [e1] at e2
  cases e2
  exact ⟨Fr.refl _ _, S, r1⟩
theorem itok_lst {vs : List V} {xs : List PyData} (h : H0 a = some (.lst vs)) (f : F0 a = none) (r : Dvs K F0 H0 vs xs) (S0 : SR K F0 H0) : ItOk K F0 H0 (Itl K a) ⟨xs.map D.d, none⟩ := fun i F H fr S _ => by
  have h' : SqL K H a vs := .inl (.inl (fr a _ h f fun _ z => nomatch z).1)
  have r' := r.mono fr S0
  refine ⟨fun d e => ?_, fun z => ⟨vs, h', by
    have z' : (xs.map D.d).length ≤ i := z
    rw [List.length_map] at z'
    rw [r'.length]
    exact z'⟩⟩
  obtain ⟨v, e1, r1⟩ := (Dvs.to r').get e
  refine ⟨⟨vs, v, h', e1⟩, fun x H' ⟨eh, y⟩ => ?_⟩
  subst eh
  have e2 := y vs h'
  rw [e1] at e2
  cases e2
  exact ⟨Fr.refl _ _, S, r1⟩
theorem itok_own {ds : List D} (l : ∃ xs, H0 a = some (.lst xs)) : ItOk K F0 H0 (Itl K a) ⟨ds, some (a, ds)⟩ := fun i F H fr S at_ => by
  obtain ⟨vs, h, r⟩ := S.list (at_ a ds rfl) (let ⟨xs, e⟩ := l; fr.ls a xs e)
  have h' : SqL K H a vs := .inl (.inl h)
  refine ⟨fun d e => ?_, fun z => ⟨vs, h', by
    rw [Paired.length r]
    exact z⟩⟩
  obtain ⟨v, e1, r1⟩ := r.get e
  refine ⟨⟨vs, v, h', e1⟩, fun x H' ⟨eh, y⟩ => ?_⟩
  subst eh
  have e2 := y vs h'
  rw [e1] at e2
  cases e2
  exact ⟨Fr.refl _ _, S, r1⟩
theorem itok_scr {ns : List Int} (h : DvD K F0 H0 (.ref a) (.scr ns)) (S0 : SR K F0 H0) : ItOk K F0 H0 (Itl K a) ⟨ns.map fun n => .d (.int n), none⟩ := fun i F H fr S _ => by
  cases h.mono fr S0 with
  | scr h' f =>
    refine ⟨fun d e => ?_, fun z => ⟨_, h', by
      have z' : (ns.map fun n => D.d (.int n)).length ≤ i := z
      rw [List.length_map] at z' ⊢
      exact z'⟩⟩
    obtain ⟨v, e1, r1⟩ := (ints_to (K := K) (st := F) (H := H) ns).get e
    refine ⟨⟨_, v, h', e1⟩, fun x H' ⟨eh, y⟩ => ?_⟩
    subst eh
    have e2 := y _ h'
    rw [e1] at e2
    cases e2
    exact ⟨Fr.refl _ _, S, r1⟩
theorem itok_rng {lo : Int} {n : Nat} : ItOk K F0 H0 (Itr lo n) ⟨(List.range n).map fun (i : Nat) => .d (.int (lo + i)), none⟩ := fun i F H fr S _ => by
  refine ⟨fun d e => ?_, fun z => by
    have z' : ((List.range n).map fun (i : Nat) => D.d (.int (lo + i))).length ≤ i := z
    rw [List.length_map, List.length_range] at z'
    exact z'⟩
  have e' : ((List.range n).map fun (i : Nat) => D.d (.int (lo + i)))[i]? = some d := e
  rw [List.getElem?_map] at e'
  cases q : (List.range n)[i]? with
  | none =>
    rw [q] at e'
    cases e'
  | some j =>
    rw [q] at e'
    have hi : i < n := by
      have := (List.getElem?_eq_some_iff.mp q).1
      rw [List.length_range] at this
      exact this
    rw [List.getElem?_range hi] at q
    cases q
    cases e'
    exact ⟨hi, fun x H' ⟨eh, ex⟩ => by
      subst eh
      subst ex
      exact ⟨Fr.refl _ _, S, .d (.int _)⟩⟩
end
section
variable {X : Cx} {tg e : Expr} {te : TEd}
theorem pdi_seq (he : PD X e te) : PDI X tg e (dIter te) := by
  refine ⟨fun pins s σ H R I ⟨en, st, hid, Rd, re, S, h, k⟩ => ?_⟩
  refine thn (he.run pins s σ H (fun x H1 => ∃ a, x = .ref a ∧ ((∃ xs, SqL X.K H1 a xs) ∧ R (Itl X.K a) H1 ∨ (∃ xs, SqT X.K H1 a xs) ∧ R (Itt X.K a) H1)) I ⟨en, st, hid, _, re, S, h, fun v H1 d st1 F1 S1 r q => ?_⟩) fun v s1 ⟨x, H1, I1, r1, a, ex, q1⟩ => ?_
  · split at q
    · obtain ⟨a, vs, rfl, h1, r2⟩ := tup_at r
      exact ⟨a, rfl, .inr ⟨⟨vs, h1⟩, k _ H1 _ st1 F1 S1 (itok_tup h1 r2 S1.sr) (fun a ds z => nomatch z) q⟩⟩
    · cases r with
      | d r =>
        cases r with
        | lst h f r => exact ⟨_, rfl, .inl ⟨⟨_, .inl (.inl h)⟩, k _ H1 _ st1 F1 S1 (itok_lst h f r S1.sr) (fun a ds z => nomatch z) q⟩⟩
    · cases r with
      | own _ l =>
        obtain ⟨ds, e1, q⟩ := q
        obtain ⟨vs, h1, r2⟩ := S1.at_ e1 l
        exact ⟨_, rfl, .inl ⟨⟨vs, .inl (.inl h1)⟩, k _ H1 _ st1 F1 S1 (itok_own l) (fun b es z => by
          cases z
          exact e1) q⟩⟩
    · cases r with
      | scr h f => exact ⟨_, rfl, .inl ⟨⟨_, h⟩, k _ H1 _ st1 F1 S1 (itok_scr (.scr h f) S1.sr) (fun a ds z => nomatch z) q⟩⟩
    · exact q.elim
  · subst ex
    cases r1
    rcases q1 with ⟨⟨xs, hq⟩, q⟩ | ⟨⟨xs, hq⟩, q⟩
    · obtain ⟨its, rv, p, hz⟩ := I1.list hq
      refine wpAny_pyIter_list p.isList ⟨_, [s1.heap.objs.size], _, _, H1, rfl, I1.kept (t' := s1.toks) fun b o e => Heap.get?_push_of_some _ e, turn_list a _, ⟨_, Heap.get?_push_size _ rfl, rfl, rfl⟩, fun b hb => ?_, q⟩
      cases (show b = s1.heap.objs.size by simpa using hb)
      exact I1.fpOk (Nat.le_refl _) (I1.hok.fresh (Nat.le_refl _))
    · obtain ⟨its, rv, p, hz⟩ := I1.tuple hq
      refine wpAny_pyIter_tuple (show s1.heap.IsTuple a its.toArray from p) ⟨_, [s1.heap.objs.size], _, _, H1, rfl, I1.kept (t' := s1.toks) fun b o e => Heap.get?_push_of_some _ e, turn_tuple a _, ⟨_, Heap.get?_push_size _ rfl, rfl, rfl⟩, fun b hb => ?_, q⟩
      cases (show b = s1.heap.objs.size by simpa using hb)
      exact I1.fpOk (Nat.le_refl _) (I1.hok.fresh (Nat.le_refl _))
/-- range(n), range(a, b) -/
def dRng1 (t : TAd) : TId := fun e st R => t e st fun ds st1 => match ds with
  | [.d (.int j)] => -(2 ^ 62) ≤ j ∧ j < 2 ^ 62 ∧ R ⟨(List.range j.toNat).map fun (i : Nat) => .d (.int (0 + i)), none⟩ st1
  | _ => False
def dRng2 (t : TAd) : TId := fun e st R => t e st fun ds st1 => match ds with
  | [.d (.int i), .d (.int j)] => (-(2 ^ 62) ≤ i ∧ i < 2 ^ 62 ∧ -(2 ^ 62) ≤ j ∧ j < 2 ^ 62) ∧ R ⟨(List.range (j - i).toNat).map fun (m : Nat) => .d (.int (i + m)), none⟩ st1
  | _ => False
theorem pdi_rng1 {a : Expr} {t : TAd} {p pos : Pos} (hg : Gl X "range") (hm : X.mg "range" = none) (ha : PDA X [a] t) (hs : starEach [a] X.env = [(false, eval a X.env)] := by rfl) : PDI X tg (.Call (.Name "range" p) [a] [] pos) (dRng1 t) :=
  PI.imp (pi_range1 hg hm ha hs) fun σ H R ⟨e, st, hid, Rd, re, S, h, k⟩ => ⟨e, st, hid, _, re, S, h, fun vs H1 ds st1 F1 S1 r q => by
    split at q
    · obtain ⟨v, rfl, r1⟩ := DvsD.one r
      cases int_at r1
      exact ⟨_, rfl, q.1, q.2.1, k _ H1 _ st1 F1 S1 itok_rng (fun a ds z => nomatch z) q.2.2⟩
    · exact q.elim⟩
theorem pdi_rng2 {a b : Expr} {t : TAd} {p pos : Pos} (hg : Gl X "range") (hm : X.mg "range" = none) (ha : PDA X [a, b] t) (hs : starEach [a, b] X.env = [(false, eval a X.env), (false, eval b X.env)] := by rfl) (hs2 : starEach [b] X.env = [(false, eval b X.env)] := by rfl) : PDI X tg (.Call (.Name "range" p) [a, b] [] pos) (dRng2 t) :=
  PI.imp (pi_range2 hg hm ha hs hs2) fun σ H R ⟨e, st, hid, Rd, re, S, h, k⟩ => ⟨e, st, hid, _, re, S, h, fun vs H1 ds st1 F1 S1 r q => by
    split at q
    · obtain ⟨v, v', rfl, r1, r2⟩ := DvsD.two r
      cases int_at r1
      cases int_at r2
      exact ⟨_, _, rfl, q.1, k _ H1 _ st1 F1 S1 itok_rng (fun a ds z => nomatch z) q.2⟩
    · exact q.elim⟩
end
/-! ### list comprehensions, one name -/
section
variable {K : PySem.W.Frag} {st hid : Sto} {H : Hp} {p : Addr} {ds : List D}
theorem jn_swap (h : st p = none) : jn st (put hid p ds) = jn (put st p ds) hid := by
  funext b
  by_cases e : b = p
  · subst e
    rw [jn_none h, put_same, jn_some put_same]
  · unfold jn
    rw [put_ne e, put_ne e]
theorem Sx.hide (S : Sx K (put st p ds) hid H) (h : st p = none) : Sx K st (put hid p ds) H := by
  refine ⟨fun a n => ?_, by rw [jn_swap h]; exact S.sr, S.tb⟩
  by_cases e : a = p
  · rw [e]
    exact h
  · rw [put_ne e] at n
    have := S.dj a n
    rw [put_ne e] at this
    exact this
theorem Sx.shown (S : Sx K st (put hid p ds) H) (h : hid p = none) : Sx K (put st p ds) hid H ∧ st p = none := by
  have hp : st p = none := S.dj p (by rw [put_same]; exact fun z => nomatch z)
  refine ⟨⟨fun a n => ?_, by rw [← jn_swap hp]; exact S.sr, S.tb⟩, hp⟩
  by_cases e : a = p
  · rw [e] at n
    exact absurd h n
  · rw [put_ne e]
    exact S.dj a (by rw [put_ne e]; exact n)
end
theorem Fr.late {A : Sto} {HA H5 : Hp} {st5 hid : Sto} {p : Addr} {acc acc' : List D} {ys : List V} (F : Fr A HA (jn (put st5 p acc) hid) H5) (h : A p ≠ none) : Fr A HA (jn (put st5 p acc') hid) (upd H5 p (.lst ys)) := by
  have ne : ∀ b, A b = none → b ≠ p := fun b e z => h (z ▸ e)
  have off : ∀ b, b ≠ p → jn (put st5 p acc) hid b = none → jn (put st5 p acc') hid b = none := fun b n z => by
    unfold jn at z ⊢
    rw [put_ne n] at z ⊢
    exact z
  refine ⟨fun b o hb hf n => ?_, fun P t f => ?_, fun b xs hb => ?_⟩
  · obtain ⟨z1, z2⟩ := F b o hb hf n
    exact ⟨by rw [upd_ne (ne b hf)]; exact z1, off b (ne b hf) z2⟩
  · obtain ⟨⟨ps, z1, q⟩, z2⟩ := F.tb P t f
    exact ⟨⟨ps, by rw [upd_ne (ne P f)]; exact z1, q⟩, off P (ne P f) z2⟩
  · by_cases n : b = p
    · exact ⟨ys, by rw [n, upd_same]⟩
    · obtain ⟨zs, z⟩ := F.ls b xs hb
      exact ⟨zs, by rw [upd_ne n]; exact z⟩
def dYes : TTd := fun _ st Q => Q true st
abbrev PDTs (X : Cx) (ifs : List Expr) (t : TTd) : Prop := PTs X ifs (upT X.K t)
theorem PTs.imp {X : Cx} {e : List Expr} {t t' : TT} (h : PTs X e t) (i : ∀ σ H Q, t' σ H Q → t σ H Q) : PTs X e t' := ⟨fun pins s σ H Q I w => h.run pins s σ H Q I (i σ H Q w)⟩
theorem pdts_nil {X : Cx} : PDTs X [] dYes := PTs.imp pts_nil fun σ H Q ⟨e, st, hid, Qd, re, S, h, k⟩ => k true H st (Fr.refl _ _) S h
theorem pdts_one {X : Cx} {c : Expr} {t : TTd} (h : PDT X c t) : PDTs X [c] t := pts_one h
def mkV (ds : List D) (st : Sto) (Q : Kd) : Prop := ∃ xs, pures ds = some xs ∧ Q (.d (.list xs)) st
def dLcM (M : List D → Sto → Kd → Prop) (ti : TId) (i : Nat) (tt : TTd) (te : TEd) : TEd := fun e st Q => ti e st fun it st1 => ∃ W : Nat → List D → Sto → Prop, W 0 [] st1 ∧ ∀ j acc st2, W j acc st2 → it.at st2 ∧ (it.xs.length ≤ j → M acc st2 Q) ∧
  ∀ d, it.xs[j]? = some d → tt (e.set i (some d)) st2 fun b st3 => if b = true then te (e.set i (some d)) st3 fun y st4 => acc.length < sizeLine ∧ W (j + 1) (acc ++ [y]) st4 else W (j + 1) acc st3
abbrev dLc := dLcM mkL
abbrev dLcV := dLcM mkV
theorem set_none_set {α : Type} {σ : List (Option α)} {i : Nat} {x : Option α} : (σ.set i none).set i x = σ.set i x := List.set_set ..
theorem pd_lcM {X : Cx} {M : List D → Sto → Kd → Prop} (hM : ∀ ds st Q, M ds st Q → mkL ds st Q) {elt iter : Expr} {ifs : List Expr} {scope : Scope} {y : Str} {i : Nat} {py pos : Pos} {ti : TId} {tt : TTd} {te : TEd} (hc : X.calm = true) (hN : X.N.Nodup) (hi : PDI X (.Name y py) iter ti) (ok : BlkOk X.N X.env.scope scope [(y, i)])
    (hg : ∀ (s : Shared) (H : Hp) (C : Addr) (cl : List (Str × Addr)) (fp : List Addr), PG (X.blk s H scope (compEnvC scope cl C X.env) fp) (.Name y py) (gName i))
    (ht : ∀ (s : Shared) (H : Hp) (C : Addr) (cl : List (Str × Addr)) (fp : List Addr), PDTs (X.blk s H scope (compEnvC scope cl C X.env) fp) ifs tt)
    (he : ∀ (s : Shared) (H : Hp) (C : Addr) (cl : List (Str × Addr)) (fp : List Addr), PD (X.blk s H scope (compEnvC scope cl C X.env) fp) elt te) (hs : ∀ x, foldedSetIterable iter X.env x = pure x := by intro _; rfl) :
    PD X (.ListComp elt [⟨.Name y py, iter, ifs, 0⟩] scope pos) (dLcM M ti i tt te) :=
  PE.imp (pe_lc (own := [(y, i)]) (wi := upI X.K ti) (g := gName i) (tt := upT X.K tt) (te := up X.K te) hc hN hi ok hg ht he hs) fun σ H Q ⟨e, st, hid, Qd, re, S, h, k⟩ => by
    refine ⟨e, st, hid, _, re, S, h, fun J H1 it st1 F1 S1 ok1 at1 ⟨W, w0, turn⟩ p hp => ?_⟩
    have n1 := jn_free (S1.sr.free0 hp)
    refine ⟨fun j m H2 => m = it.xs.length - j ∧ ∃ acc st2, W j acc st2 ∧ Sx X.K (put st2 p acc) hid H2 ∧ st2 p = none ∧ Fr (jn (put st1 p []) hid) (upd H1 p (.lst [])) (jn (put st2 p acc) hid) H2, ⟨it.xs.length, by simp, [], st1, w0, S1.own hp .nil, n1.1, Fr.refl _ _⟩, ?_⟩
    rintro j m H2 ⟨rfl, acc, st2, w2, S2, n2, F2⟩
    obtain ⟨at2, done, go⟩ := turn j acc st2 w2
    have Sh := S2.hide n2
    have eqF : jn st2 (put hid p acc) = jn (put st2 p acc) hid := jn_swap n2
    -- from the state ahead of the new list
    have F12 : Fr (jn st1 hid) H1 (jn (put st2 p acc) hid) H2 := Fr.trans (fx_own hp) F2
    have F02 : Fr (jn st hid) H (jn (put st2 p acc) hid) H2 := Fr.trans F1 F12
    have atF : it.at (jn (put st2 p acc) hid) := fun a ds z => by
      have e1 := at2 a ds z
      have ne : a ≠ p := fun z' => by
        rw [z', n2] at e1
        cases e1
      exact jn_some (by rw [put_ne ne]; exact e1)
    have It := ok1 j _ H2 F12 S2.sr atF
    by_cases hj : it.xs.length ≤ j
    · refine .inl ⟨It.2 hj, ?_⟩
      obtain ⟨vs, hv, rv⟩ := S2.at_ put_same (F2.ls _ [] upd_same)
      rcases hM _ _ _ (done hj) with ⟨xs, ep, q⟩ | q
      · have ea := pures_eq ep
        subst ea
        obtain ⟨Sc, Fc, fc⟩ := S2.frz put_same
        have ec : cut (put st2 p (xs.map D.d)) p = st2 := by
          funext b
          by_cases eb : b = p
          · rw [eb, cut_same, n2]
          · rw [cut_ne eb, put_ne eb]
        rw [ec] at Sc Fc fc
        exact k _ H2 _ st2 (Fr.trans F02 Fc) Sc (.d (.lst hv fc ((Dvs.of rv).mono Fc S2.sr))) q
      · exact k _ H2 _ _ F02 S2 (.own p ⟨_, hv⟩) (q p n2)
    · have hlt : j < it.xs.length := Nat.lt_of_not_le hj
      have ed : it.xs[j]? = some it.xs[j] := List.getElem?_eq_getElem hlt
      obtain ⟨g1, g2⟩ := It.1 _ ed
      refine .inr ⟨g1, fun H' => ∃ acc' st', W (j + 1) acc' st' ∧ Sx X.K (put st' p acc') hid H' ∧ st' p = none ∧ Fr (jn (put st1 p []) hid) (upd H1 p (.lst [])) (jn (put st' p acc') hid) H', fun H' ⟨acc', st', h1, h2, h3, h4⟩ => ⟨it.xs.length - (j + 1), by omega, rfl, acc', st', h1, h2, h3, h4⟩, fun x H3 hy => ?_⟩
      obtain ⟨F23, S3r, rx⟩ := g2 x H3 hy
      have S3 : Sx X.K (put st2 p acc) hid H3 := S2.go F23 S3r
      have S3h := S3.hide n2
      have F03 := Fr.trans F02 F23
      have reX : RE X.K (jn st2 (put hid p acc)) H3 (((wipe σ [i]).set i (some x))) (e.set i (some it.xs[j])) := by
        rw [eqF]
        show RE X.K _ H3 ((σ.set i none).set i (some x)) _
        rw [set_none_set]
        exact (re.mono F03 S.sr).set rx
      show wipe ((wipe σ [i]).set i (some x)) [i] = wipe σ [i] ∧ upT X.K tt ((wipe σ [i]).set i (some x)) H3 _
      refine ⟨by
        show (((σ.set i none).set i (some x)).set i none) = σ.set i none
        rw [List.set_set, List.set_set], ?_⟩
      refine ⟨_, st2, put hid p acc, _, reX, S3h, go _ ed, fun b H4 st4 F4 S4 q4 => ?_⟩
      have hn : hid p = none := n1.2
      have F3X : Fr (jn (put st1 p []) hid) (upd H1 p (.lst [])) (jn st2 (put hid p acc)) H3 := by
        rw [eqF]
        exact Fr.trans F2 F23
      cases b with
      | false =>
        rw [if_neg Bool.false_ne_true] at q4
        refine iteF ?_
        obtain ⟨S4', n4⟩ := S4.shown hn
        refine ⟨acc, st4, q4, S4', n4, ?_⟩
        rw [← jn_swap n4]
        exact Fr.trans F3X F4
      | true =>
        rw [if_pos rfl] at q4
        refine iteT ?_
        refine ⟨_, st4, put hid p acc, _, reX.mono F4 S3h.sr, S4, q4, fun v H5 d st5 F5 S5 r5 ⟨hz, w5⟩ => ?_⟩
        obtain ⟨S5', n5⟩ := S5.shown hn
        obtain ⟨vs, hv, rv⟩ := S5'.at_ put_same ((Fr.trans F3X (Fr.trans F4 F5)).ls _ [] upd_same)
        rw [jn_swap n5] at r5
        refine ⟨vs, hv, by rw [Paired.length rv]; exact hz, acc ++ [d], st5, w5, ?_, n5, ?_⟩
        · have := S5'.store (es := acc ++ [d]) put_same (DvsD.snoc rv r5)
          have ee : put (put st5 p acc) p (acc ++ [d]) = put st5 p (acc ++ [d]) := by
            funext b
            by_cases eb : b = p
            · rw [eb, put_same, put_same]
            · rw [put_ne eb, put_ne eb, put_ne eb]
          rw [ee] at this
          exact this
        · have Fa : Fr (jn (put st1 p []) hid) (upd H1 p (.lst [])) (jn (put st5 p acc) hid) H5 := by
            rw [← jn_swap n5]
            exact Fr.trans F3X (Fr.trans F4 F5)
          exact Fr.late Fa (by rw [jn_some put_same]; exact fun z => nomatch z)
theorem hm_own : ∀ ds st Q, mkL ds st Q → mkL ds st Q := fun _ _ _ h => h
theorem hm_val : ∀ ds st Q, mkV ds st Q → mkL ds st Q := fun _ _ _ h => .inl h
end DL
namespace DL
open PySem PySem.Spec PyProof.Rows L2
variable [Tabs]
/-! ### targets -/
abbrev TGd := D → Ed → Sto → (Ed → Sto → Prop) → Prop
abbrev TGsd := List D → Ed → Sto → (Ed → Sto → Prop) → Prop
def upG (K : PySem.W.Frag) (t : TGd) : TG := fun v σ H Q => ∃ d e st hid Qd, DvD K (jn st hid) H v d ∧ RE K (jn st hid) H σ e ∧ Sx K st hid H ∧ t d e st Qd ∧ GoS K st hid H Qd Q
def upGs (K : PySem.W.Frag) (t : TGsd) : TGs := fun vs σ H Q => ∃ ds e st hid Qd, DvsD K (jn st hid) H vs ds ∧ RE K (jn st hid) H σ e ∧ Sx K st hid H ∧ t ds e st Qd ∧ GoS K st hid H Qd Q
abbrev PDG (X : Cx) (tg : Expr) (t : TGd) : Prop := PG X tg (upG X.K t)
abbrev PDGs (X : Cx) (tg : List Expr) (t : TGsd) : Prop := PGs X tg (upGs X.K t)
theorem PG.imp {X : Cx} {tg : Expr} {t t' : TG} (h : PG X tg t) (i : ∀ v σ H Q, t' v σ H Q → t v σ H Q) : PG X tg t' := ⟨fun pins s σ H v u Q I r w => h.run pins s σ H v u Q I r (i v σ H Q w)⟩
theorem PGs.imp {X : Cx} {tg : List Expr} {t t' : TGs} (h : PGs X tg t) (i : ∀ v σ H Q, t' v σ H Q → t v σ H Q) : PGs X tg t' := ⟨fun pins s σ H v u Q I r w => h.run pins s σ H v u Q I r (i v σ H Q w)⟩
theorem GoS.now {K : PySem.W.Frag} {st hid : Sto} {H : Hp} {Qd : Ed → Sto → Prop} {Q : L2.St → Hp → Prop} (g : GoS K st hid H Qd Q) {σ : L2.St} {e : Ed} (S : Sx K st hid H) (h : RE K (jn st hid) H σ e) (q : Qd e st) : Q σ H := g σ H e st (Fr.refl _ _) S h q
section
variable {X : Cx} {pos : Pos}
def hName (i : Nat) : TGd := fun d e st Q => Q (e.set i (some d)) st
theorem pdg_name {i : Nat} {x : Str} (hN : X.N.Nodup) (hi : X.N[i]? = some x) (hx : Loc X.env.scope x) (hf : X.fn x = true ∨ X.env.scope.names.lookup x = some .local := by first | exact .inl rfl | exact .inr rfl | assumption) : PDG X (.Name x pos) (hName i) :=
  PG.imp (pg_name hN hi hx hf) fun v σ H Q ⟨d, e, st, hid, Qd, r, re, S, q, k⟩ => GoS.now k S (re.set r) q
def hNil : TGsd := fun ds e st Q => ds = [] ∧ Q e st
def hCons (t : TGd) (u : TGsd) : TGsd := fun ds e st Q => match ds with
  | d :: r => t d e st fun e1 st1 => u r e1 st1 Q
  | [] => False
theorem pdgs_nil : PDGs X [] hNil := PGs.imp pgs_nil fun v σ H Q ⟨ds, e, st, hid, Qd, r, re, S, q, k⟩ => by
  obtain ⟨rfl, q⟩ := q
  cases r
  exact ⟨rfl, GoS.now k S re q⟩
theorem pdgs_cons {e : Expr} {es : List Expr} {t : TGd} {u : TGsd} (h1 : PDG X e t) (h2 : PDGs X es u)
    (hs : (assignEach (e :: es) X.env).map (·.2) = assign e X.env :: (assignEach es X.env).map (·.2) := by rfl) : PDGs X (e :: es) (hCons t u) :=
  PGs.imp (pgs_cons h1 h2 hs) fun v σ H Q ⟨ds, e, st, hid, Qd, r, re, S, q, k⟩ => by
    cases r with
    | nil => exact q.elim
    | cons h t =>
      exact ⟨_, _, rfl, _, e, st, hid, _, h, re, S, q, fun σ1 H1 e1 st1 F1 S1 re1 q1 => ⟨_, e1, st1, hid, Qd, DvsD.mono F1 S.sr t, re1, S1, q1, GoS.mono k F1⟩⟩
/-- (a, b, ..) = a tuple of that length -/
def hTup (n : Nat) (t : TGsd) : TGd := fun d e st Q => match d with
  | .d (.tuple xs) => xs.length = n ∧ t (xs.map D.d) e st Q
  | .tp ds => ds.length = n ∧ t ds e st Q
  | _ => False
theorem pdg_tup {es : List Expr} {k : Nat} {t : TGsd} {n : Nat} (hc : X.calm = true) (h : PDGs X es t)
    (hn : (assignEach es X.env).length = n := by rfl) (hst : (assignEach es X.env).findIdx? (·.1) = none := by rfl) : PDG X (.Tuple es k pos) (hTup n t) :=
  PG.imp (pg_tup hc h hn hst) fun v σ H Q ⟨d, e, st, hid, Qd, r, re, S, q, k⟩ => by
    unfold hTup at q
    split at q
    · obtain ⟨a, vs, rfl, h1, r1⟩ := tup_at r
      exact ⟨a, vs, rfl, h1, by rw [r1.length]; exact q.1, _, e, st, hid, Qd, Dvs.to r1, re, S, q.2, k⟩
    · cases r with
      | tp h r1 => exact ⟨_, _, rfl, h, by rw [Paired.length r1]; exact q.1, _, e, st, hid, Qd, DvEs.up r1, re, S, q.2, k⟩
    · exact q.elim
/-- xs[i] = v of a list that may change -/
def hSub (to ti : TEd) : TGd := fun d e st Q => to e st fun o st1 => ti e st1 fun i st2 => match o, i with
  | .own a, .d (.int i) => ∃ ds j, st2 a = some ds ∧ ixN ds.length i = some j ∧ Q e (put st2 a (ds.set j d))
  | _, _ => False
theorem pdg_sub {o i : Expr} {to ti : TEd} (ho : PD X o to) (hi : PD X i ti)
    (ha : ∀ v, assign (.Subscript o i pos) X.env v = (do
      let ov ← holding [v] (eval o X.env); let iv ← holding [v, ov] (eval i X.env)
      standAt pos; holding [v, ov, iv] (setItem ov iv v); release [v, ov, iv] []) := by intro _; rfl) : PDG X (.Subscript o i pos) (hSub to ti) :=
  PG.imp (pg_sub ho hi set_list ha) fun v σ H Q ⟨d, e, st, hid, Qd, r, re, S, h, k⟩ => ⟨e, st, hid, _, re, S, h, fun ov H1 od st1 F1 S1 r1 h1 => ⟨e, st1, hid, _, re.mono F1 S.sr, S1, h1, fun iv H2 id st2 F2 S2 r2 h2 => by
    split at h2
    · obtain ⟨ds, j, e1, e2, q⟩ := h2
      cases int_at r2
      cases r1 with
      | own _ l =>
        obtain ⟨vs, hv, rv⟩ := S2.at_ e1 (let ⟨_, z⟩ := l; F2.ls _ _ z)
        have F := Fr.trans F1 F2
        refine ⟨_, vs, _, j, rfl, rfl, hv, by rw [Paired.length rv]; exact e2, ?_⟩
        have F3 : FrX st2 hid H2 (put st2 _ (ds.set j d)) (upd H2 _ (.lst (vs.set j v))) := fx_put e1
        exact k _ _ _ _ (Fr.trans F F3) (S2.store e1 (DvsD.set j rv (r.mono F S.sr))) (re.mono (Fr.trans F F3) S.sr) q
    · exact h2.elim⟩⟩
end
/-! ### statements -/
section
variable {X : Cx} {st : Stmt} {rest : List Stmt} {t u : TSd} {e : Expr} {te : TEd} {pos : Pos}
theorem PDS.go {X : Cx} {s : Stmt} {T : TS} {t : TSd} (h : PS X s T) (i : ∀ D σ H, upS X.K t D σ H → T D σ H) : PDS X s t := PS.imp h i
def dNext : TSd := fun E e st => E.nx e st
def dSeq (t u : TSd) : TSd := fun E e st => t { E with nx := u E } e st
theorem pss_dnil : PDSs X [] dNext := PSs.imp pss_nil fun D σ H ⟨e, st, hid, E, re, S, h, k1, k2, k3, k4⟩ => GoS.now k1 S re h
theorem seq_imp {K : PySem.W.Frag} {D : Ends} {σ : L2.St} {H : Hp} (w : upS K (dSeq t u) D σ H) : tSeq (upS K t) (upS K u) D σ H := by
  obtain ⟨e, st, hid, E, re, S, h, k1, k2, k3, k4⟩ := w
  exact ⟨e, st, hid, { E with nx := u E }, re, S, h, fun σ' H' e' st' F' S' re' q => ⟨e', st', hid, E, re', S', q, GoS.mono k1 F', Go.mono k2 F', GoS.mono k3 F', GoS.mono k4 F'⟩, k2, k3, k4⟩
theorem pss_dcons (h1 : PDS X st t) (h2 : PDSs X rest u) : PDSs X (st :: rest) (dSeq t u) := PSs.imp (pss_cons h1 h2) fun _ _ _ => seq_imp
theorem pss_done (h1 : PDS X st t) : PDSs X [st] t := pss_one h1
def dBreak : TSd := fun E e st => E.bk e st
def dCont : TSd := fun E e st => E.ct e st
theorem psd_break : PDS X (.Break pos) dBreak := PS.imp ps_break fun D σ H ⟨e, st, hid, E, re, S, h, k1, k2, k3, k4⟩ => GoS.now k3 S re h
theorem psd_cont : PDS X (.Continue pos) dCont := PS.imp ps_continue fun D σ H ⟨e, st, hid, E, re, S, h, k1, k2, k3, k4⟩ => GoS.now k4 S re h
theorem psd_pass : PDS X (.Pass pos) dNext := PS.imp ps_pass fun D σ H ⟨e, st, hid, E, re, S, h, k1, k2, k3, k4⟩ => GoS.now k1 S re h
def dNever : TSd := fun _ _ _ => False
theorem pss_dnever {sts : List Stmt} : PDSs X sts dNever := PSs.imp pss_never fun D σ H ⟨e, st, hid, E, re, S, h, _⟩ => h.elim
theorem psd_never : PDS X st dNever := PS.imp ps_never fun D σ H ⟨e, st, hid, E, re, S, h, _⟩ => h.elim
def dDrop (te : TEd) : TSd := fun E e st => te e st fun _ st1 => E.nx e st1
theorem psd_expr (he : PD X e te) (hs : swapsWith e none pos.line X.env = pure false := by rfl) : PDS X (.Expr e pos) (dDrop te) :=
  PS.imp (ps_expr he hs) fun D σ H ⟨e, st, hid, E, re, S, h, k1, k2, k3, k4⟩ => ⟨e, st, hid, _, re, S, h, fun v H1 d st1 F1 S1 r q => k1 σ H1 e st1 F1 S1 (re.mono F1 S.sr) q⟩
/-- a list that may change is given as a value -/
def frz (Q : Kd) : Kd := fun d st => Q d st ∨ ∃ a xs, d = .own a ∧ st a = some (xs.map D.d) ∧ Q (.d (.list xs)) (cut st a)
theorem frz_go {K : PySem.W.Frag} {st hid : Sto} {H : Hp} {Qd : Kd} {Q : VK} (k : Go K st hid H Qd Q) : Go K st hid H (frz Qd) Q := fun v H1 d st1 F1 S1 r q => by
  rcases q with q | ⟨a, xs, rfl, e1, q⟩
  · exact k v H1 d st1 F1 S1 r q
  · cases r with
    | own _ l =>
      obtain ⟨vs, hv, rv⟩ := S1.at_ e1 l
      obtain ⟨Sc, Fc, fc⟩ := S1.frz e1
      exact k _ H1 _ _ (Fr.trans F1 Fc) Sc (.d (.lst hv fc ((Dvs.of rv).mono Fc S1.sr))) q
def dRet (te : TEd) : TSd := fun E e st => te e st (frz E.rt)
theorem psd_ret (he : PD X e te) : PDS X (.Return (some e) pos) (dRet te) :=
  PS.imp (ps_ret he) fun D σ H ⟨e, st, hid, E, re, S, h, k1, k2, k3, k4⟩ => ⟨e, st, hid, _, re, S, h, frz_go k2⟩
def dRetN : TSd := fun E _ st => E.rt (.d .none) st
theorem psd_retN : PDS X (.Return none pos) dRetN := PS.imp ps_retN fun D σ H ⟨e, st, hid, E, re, S, h, k1, k2, k3, k4⟩ => Go.now k2 S (.d .non) h
def dIfS (c : TTd) (t u : TSd) : TSd := fun E e st => c e st fun b st1 => if b = true then t E e st1 else u E e st1
theorem psd_if {c : Expr} {a b : List Stmt} {tc : TTd} (hc : PDT X c tc) (ha : PDSs X a t) (hb : PDSs X b u) : PDS X (.If c a b pos) (dIfS tc t u) :=
  PS.imp (ps_if hc ha hb) fun D σ H ⟨e, st, hid, E, re, S, h, k1, k2, k3, k4⟩ => ⟨e, st, hid, _, re, S, h, fun b H1 st1 F1 S1 q => by
    cases b with
    | true =>
      rw [if_pos rfl] at q
      exact iteT ⟨e, st1, hid, E, re.mono F1 S.sr, S1, q, GoS.mono k1 F1, Go.mono k2 F1, GoS.mono k3 F1, GoS.mono k4 F1⟩
    | false =>
      rw [if_neg Bool.false_ne_true] at q
      exact iteF ⟨e, st1, hid, E, re.mono F1 S.sr, S1, q, GoS.mono k1 F1, Go.mono k2 F1, GoS.mono k3 F1, GoS.mono k4 F1⟩⟩
def dAsg (te : TEd) (g : TGd) : TSd := fun E e st => te e st (frz fun d st1 => g d e st1 E.nx)
theorem asg_imp {K : PySem.W.Frag} {g : TGd} {D : Ends} {σ : L2.St} {H : Hp} (w : upS K (dAsg te g) D σ H) : tAsg (up K te) (upG K g) D σ H := by
  obtain ⟨e, st, hid, E, re, S, h, k1, k2, k3, k4⟩ := w
  exact ⟨e, st, hid, _, re, S, h, frz_go fun v H1 d st1 F1 S1 r q => ⟨d, e, st1, hid, _, r, re.mono F1 S.sr, S1, q, GoS.mono k1 F1⟩⟩
theorem psd_asg {tg : Expr} {g : TGd} (he : PD X e te) (hg : PDG X tg g) (hs : swapsWithSole [tg] e pos.line X.env = pure false := by rfl) (hw : swappedStores [tg] e X.env = pure none := by rfl)
    (h1 : (assignEach [tg] X.env).map (·.2) = [assign tg X.env] := by rfl) : PDS X (.Assign [tg] e pos) (dAsg te g) := PS.imp (ps_asg he hg hs hw h1) fun _ _ _ => asg_imp
theorem psd_set {i : Nat} {x : Str} {pos' : Pos} (hN : X.N.Nodup) (hi : X.N[i]? = some x) (hx : Loc X.env.scope x) (he : PD X e te) (hs : swapsWith e (some (.Name x pos')) pos.line X.env = pure false := by rfl) (hf : X.fn x = true ∨ X.env.scope.names.lookup x = some .local := by first | exact .inl rfl | exact .inr rfl | assumption) :
    PDS X (.Assign [.Name x pos'] e pos) (dAsg te (hName i)) := PS.imp (ps_set hN hi hx he hs hf) fun D σ H ⟨e, st, hid, E, re, S, h, k1, k2, k3, k4⟩ => ⟨e, st, hid, _, re, S, h, frz_go fun v H1 d st1 F1 S1 r q => k1 _ H1 _ st1 F1 S1 ((re.mono F1 S.sr).set r) q⟩
/-- a, b = x, y with plain local names -/
def dPar (i j : Nat) (ta : TAd) : TSd := fun E e st => ta e st fun ds st1 => match ds with
  | [d1, d2] => E.nx ((e.set i (some d1)).set j (some d2)) st1
  | _ => False
theorem psd_par {i j : Nat} {x y : Str} {a b : Expr} {ta : TAd} {px py pt : Pos} {kt k2 pt2} (hc : X.calm = true) (hN : X.N.Nodup) (hi : X.N[i]? = some x) (hj : X.N[j]? = some y) (hij : i ≠ j)
    (hx : X.env.scope.names.lookup x = some .local) (hy : X.env.scope.names.lookup y = some .local) (ha : PDA X [a, b] ta)
    (hw : swappedStores [.Tuple [.Name x px, .Name y py] kt pt] (.Tuple [a, b] k2 pt2) X.env = pure (some [x, y]))
    (hs : swapsWithSole [.Tuple [.Name x px, .Name y py] kt pt] (.Tuple [a, b] k2 pt2) pos.line X.env = pure false := by rfl) :
    PDS X (.Assign [.Tuple [.Name x px, .Name y py] kt pt] (.Tuple [a, b] k2 pt2) pos) (dPar i j ta) :=
  PS.imp (ps_par hc hN hi hj hij hx hy ha hw hs) fun D σ H ⟨e, st, hid, E, re, S, h, k1, k2, k3, k4⟩ => ⟨e, st, hid, _, re, S, h, fun vs H1 ds st1 F1 S1 r q => by
    split at q
    · obtain ⟨v, v', rfl, r1, r2⟩ := DvsD.two r
      exact ⟨v, v', rfl, k1 _ H1 _ st1 F1 S1 (((re.mono F1 S.sr).set r1).set r2) q⟩
    · exact q.elim⟩
def dPar3 (i j l : Nat) (ta : TAd) : TSd := fun E e st => ta e st fun ds st1 => match ds with
  | [d1, d2, d3] => E.nx (((e.set i (some d1)).set j (some d2)).set l (some d3)) st1
  | _ => False
theorem psd_par3 {i j l : Nat} {x y z : Str} {a b c : Expr} {ta : TAd} {px py pz pt : Pos} {kt k2 pt2} (hc : X.calm = true) (hN : X.N.Nodup) (hi : X.N[i]? = some x) (hj : X.N[j]? = some y) (hl : X.N[l]? = some z) (hij : i ≠ j) (hil : i ≠ l) (hjl : j ≠ l)
    (hx : X.env.scope.names.lookup x = some .local) (hy : X.env.scope.names.lookup y = some .local) (hz : X.env.scope.names.lookup z = some .local) (ha : PDA X [a, b, c] ta)
    (hw : swappedStores [.Tuple [.Name x px, .Name y py, .Name z pz] kt pt] (.Tuple [a, b, c] k2 pt2) X.env = pure (some [x, y, z]))
    (hs : swapsWithSole [.Tuple [.Name x px, .Name y py, .Name z pz] kt pt] (.Tuple [a, b, c] k2 pt2) pos.line X.env = pure false := by rfl) :
    PDS X (.Assign [.Tuple [.Name x px, .Name y py, .Name z pz] kt pt] (.Tuple [a, b, c] k2 pt2) pos) (dPar3 i j l ta) :=
  PS.imp (ps_par3 hc hN hi hj hl hij hil hjl hx hy hz ha hw hs) fun D σ H ⟨e, st, hid, E, re, S, h, k1, k2, k3, k4⟩ => ⟨e, st, hid, _, re, S, h, fun vs H1 ds st1 F1 S1 r q => by
    split at q
    · cases r with
      | cons r1 t =>
        obtain ⟨v, v', rfl, r2, r3⟩ := DvsD.two t
        exact ⟨_, v, v', rfl, k1 _ H1 _ st1 F1 S1 ((((re.mono F1 S.sr).set r1).set r2).set r3) q⟩
    · exact q.elim⟩
/-- xs.append(e) -/
def dApp (to te : TEd) : TEd := fun e st Q => to e st fun o st1 => match o with
  | .own a => (st1 a).isSome = true ∧ te e st1 fun d st2 => ∃ ds, st2 a = some ds ∧ ds.length < sizeLine ∧ Q (.d .none) (put st2 a (ds ++ [d]))
  | _ => False
theorem pd_append {o : Expr} {to : TEd} {apos cpos : Pos} (ho : PD X o to) (ha : PD X e te)
    (hbase : attributeBase o "append" X.env (eval o X.env) = eval o X.env := by rfl) (hline : (apos.endLine == cpos.line) = true := by rfl)
    (hs0 : starEach [e] X.env = (false, eval e X.env) :: starEach [] X.env := by rfl)
    (hfew : ((backTo cpos (starEach [e] X.env)).all (fun x => !x.1) && (backToKw cpos (keywordEach [] X.env)).all (fun x => x.1.isSome) && decide ([e].length + ([] : List Keyword).length + (if ([] : List Keyword).isEmpty then 0 else 1) < 30)) = true := by rfl)
    (hplain : (backTo cpos (starEach [] X.env)).any (·.1) = false := by rfl) : PD X (.Call (.Attribute o "append" apos) [e] [] cpos) (dApp to te) := by
  refine PE.imp (pe_bm PySem.F.plainAttrs_list PySem.F.slot_list_append PySem.F.type_list_append mt_append ho (pa_cons ha pa_nil hs0) hbase hfew hline hs0 hplain) fun σ H Q ⟨e, st, hid, Qd, re, S, h, k⟩ => ⟨e, st, hid, _, re, S, h, fun v H1 d st1 F1 S1 r q => ?_⟩
  cases r with
  | d h => exact q.elim
  | scr h f => exact q.elim
  | obj a => exact q.elim
  | tp _ _ => exact q.elim
  | own a l =>
    obtain ⟨h0, q⟩ := q
    obtain ⟨ds, e1⟩ := Option.isSome_iff_exists.mp h0
    obtain ⟨vs, hv, rv⟩ := S1.at_ e1 l
    refine ⟨.inl ⟨rfl, vs, .inl (.inl hv)⟩, e, st1, hid, _, re.mono F1 S.sr, S1, q, fun y H2 dy st2 F2 S2 ry ⟨es, e2, hz, q2⟩ => ?_⟩
    obtain ⟨ws, hw, rw'⟩ := S2.at_ e2 (F2.ls _ _ hv)
    have F3 : FrX st2 hid H2 (put st2 a (es ++ [dy])) (upd H2 a (.lst (ws ++ [y]))) := fx_put e2
    exact ⟨a, ws, y, rfl, rfl, hw, by rw [Paired.length rw']; exact hz, k _ _ _ _ (Fr.trans F1 (Fr.trans F2 F3)) (S2.store e2 (DvsD.snoc rw' ry)) (.d .non) q2⟩
/-- while: the word and its measure -/
def dWhile (c : TTd) (tb : TSd) : TSd := fun E e st => ∃ W : Nat → Ed → Sto → Prop, (∃ m, W m e st) ∧ ∀ m e st, W m e st → c e st fun b st1 => if b = true then tb { E with nx := fun e' st' => ∃ m', m' < m ∧ W m' e' st', ct := fun e' st' => ∃ m', m' < m ∧ W m' e' st', bk := E.nx } e st1 else E.nx e st1
theorem psd_while {c : Expr} {body : List Stmt} {tc : TTd} {tb : TSd} (hp : PassesOwn (model X.prog X.w) X.A X.env X.xe) (hc : PDT X c tc) (hb : PDSs X body tb) : PDS X (.While c body [] pos) (dWhile tc tb) :=
  PS.imp (ps_while hp hc hb) fun D σ H ⟨e, st, hid, E, re, S, ⟨W, ⟨m0, w0⟩, turn⟩, k1, k2, k3, k4⟩ => by
    refine ⟨fun m σ' H' => ∃ e' st', W m e' st' ∧ FrX st hid H st' H' ∧ Sx X.K st' hid H' ∧ RE X.K (jn st' hid) H' σ' e', ⟨m0, e, st, w0, Fr.refl _ _, S, re⟩, fun m σ1 H1 ⟨e1, st1, w1, F1, S1, re1⟩ => ?_⟩
    refine ⟨e1, st1, hid, _, re1, S1, turn m e1 st1 w1, fun b H2 st2 F2 S2 q => ?_⟩
    have F := Fr.trans F1 F2
    cases b with
    | false =>
      rw [if_neg Bool.false_ne_true] at q
      exact iteF (k1 _ H2 _ st2 F S2 (re1.mono F2 S1.sr) q)
    | true =>
      rw [if_pos rfl] at q
      refine iteT ⟨fun σ' H' => ∃ m', m' < m ∧ ∃ e' st', W m' e' st' ∧ FrX st hid H st' H' ∧ Sx X.K st' hid H' ∧ RE X.K (jn st' hid) H' σ' e', fun σ' H' ⟨m', h1, h2⟩ => ⟨m', h1, h2⟩, e1, st2, hid, _, re1.mono F2 S1.sr, S2, q, ?_, Go.mono k2 F, GoS.mono k1 F, ?_⟩
      · exact fun σ3 H3 e3 st3 F3 S3 re3 ⟨m', h1, h2⟩ => ⟨m', h1, e3, st3, h2, Fr.trans F F3, S3, re3⟩
      · exact fun σ3 H3 e3 st3 F3 S3 re3 ⟨m', h1, h2⟩ => ⟨m', h1, e3, st3, h2, Fr.trans F F3, S3, re3⟩
/-- for: the word by the turn -/
def dFor (ti : TId) (g : TGd) (tb : TSd) : TSd := fun E e st => ti e st fun it st1 => ∃ W : Nat → Ed → Sto → Prop, W 0 e st1 ∧ ∀ i e st, W i e st → it.at st ∧ (it.xs.length ≤ i → E.nx e st) ∧
  ∀ d, it.xs[i]? = some d → g d e st fun e2 st2 => tb { E with nx := W (i + 1), ct := W (i + 1), bk := E.nx } e2 st2
theorem psd_for {tg iter : Expr} {body : List Stmt} {ti : TId} {g : TGd} {tb : TSd} (hp : PassesOwn (model X.prog X.w) X.A X.env X.xe) (hc : X.calm = true) (hi : PDI X tg iter ti) (hg : PDG X tg g) (hb : PDSs X body tb)
    (hs : ∀ x, foldedSetIterable iter X.env x = pure x := by intro _; rfl) : PDS X (.For tg iter body [] pos) (dFor ti g tb) :=
  PS.imp (ps_for hp hc hi hg hb hs) fun D σ H ⟨e, st, hid, E, re, S, h, k1, k2, k3, k4⟩ => by
    refine ⟨e, st, hid, _, re, S, h, fun J H1 it st1 F1 S1 ok1 at1 ⟨W, w0, turn⟩ => ?_⟩
    refine ⟨fun i m σ' H' => m = it.xs.length - i ∧ ∃ e' st', W i e' st' ∧ FrX st1 hid H1 st' H' ∧ Sx X.K st' hid H' ∧ RE X.K (jn st' hid) H' σ' e', ⟨it.xs.length, by simp, e, st1, w0, Fr.refl _ _, S1, re.mono F1 S.sr⟩, ?_⟩
    rintro i m σ2 H2 ⟨rfl, e2, st2, w2, F2, S2, re2⟩
    obtain ⟨at2, done, go⟩ := turn i e2 st2 w2
    have It := ok1 i _ H2 F2 S2.sr fun a ds z => jn_some (at2 a ds z)
    by_cases hj : it.xs.length ≤ i
    · exact .inl ⟨It.2 hj, k1 _ H2 _ st2 (Fr.trans F1 F2) S2 re2 (done hj)⟩
    · have hlt : i < it.xs.length := Nat.lt_of_not_le hj
      have ed : it.xs[i]? = some it.xs[i] := List.getElem?_eq_getElem hlt
      obtain ⟨g1, g2⟩ := It.1 _ ed
      refine .inr ⟨g1, fun σ' H' => ∃ e' st', W (i + 1) e' st' ∧ FrX st1 hid H1 st' H' ∧ Sx X.K st' hid H' ∧ RE X.K (jn st' hid) H' σ' e', fun σ' H' q => ⟨it.xs.length - (i + 1), by omega, rfl, q⟩, fun x H3 hy => ?_⟩
      obtain ⟨F3, S3r, rx⟩ := g2 x H3 hy
      have S3 : Sx X.K st2 hid H3 := S2.go F3 S3r
      refine ⟨_, e2, st2, hid, _, rx, re2.mono F3 S2.sr, S3, go _ ed, fun σ4 H4 e4 st4 F4 S4 re4 q4 => ?_⟩
      have F14 : FrX st1 hid H1 st4 H4 := Fr.trans F2 (Fr.trans F3 F4)
      have F04 := Fr.trans F1 F14
      refine ⟨e4, st4, hid, _, re4, S4, q4, ?_, Go.mono k2 F04, GoS.mono k1 F04, ?_⟩
      · exact fun σ' H' e' st' F' S' re' w => ⟨e', st', w, Fr.trans F14 F', S', re'⟩
      · exact fun σ' H' e' st' F' S' re' w => ⟨e', st', w, Fr.trans F14 F', S', re'⟩
end
end DL
namespace DL
open PySem PySem.Spec PyProof.Rows L2
variable [Tabs]
/-! ### defs: as FnOk, called where no repr is under way -/
structure FnG (P : Program) (w : World) (K : PySem.W.Frag) (mg : Str → Option Value) (base : Heap) (k : Nat) (f : Addr) (fd : FuncData) (ps : List Str) (sp : Sp) : Prop where
  len : ∀ vs H Q E, sp vs H Q E → vs.length = ps.length
  run : ∀ (A : Around) (outer : List Env) (s : Shared) (H : Hp) (args : Args) (us : List Value) (vs : List V) (Q : VK) (E : XK), A.guards = some [] → Room k A → Env0 P w K mg base A outer s H → BindsTo s fd args (ps.zip us) → Vals vs us → sp vs H Q E →
    codeAny (model P w) A (.call (.ref f) args) (CR CX0 outer P w H s Q E) s
theorem FnG.mono {P : Program} {w : World} {K : PySem.W.Frag} {mg : Str → Option Value} {base : Heap} {j k : Nat} {f : Addr} {fd : FuncData} {ps : List Str} {sp : Sp} (F : FnG P w K mg base j f fd ps sp) (h : j ≤ k) : FnG P w K mg base k f fd ps sp :=
  ⟨F.len, fun A outer s H args us vs Q E hg hr => F.run A outer s H args us vs Q E hg (hr.mono h)⟩
abbrev SpD := List D → Sto → Kd → Prop
def upSp (K : PySem.W.Frag) (sp : SpD) : Sp := fun vs H Q _ => ∃ ds st hid Qd, DvsD K (jn st hid) H vs ds ∧ Sx K st hid H ∧ sp ds st Qd ∧ Go K st hid H Qd Q
abbrev FnD (P : Program) (w : World) (K : PySem.W.Frag) (mg : Str → Option Value) (base : Heap) (k : Nat) (f : Addr) (fd : FuncData) (ps : List Str) (sp : SpD) : Prop := FnG P w K mg base k f fd ps (upSp K sp)
theorem FnD.imp {P : Program} {w : World} {K : PySem.W.Frag} {mg : Str → Option Value} {base : Heap} {k : Nat} {f : Addr} {fd : FuncData} {ps : List Str} {sp sp' : SpD} (F : FnD P w K mg base k f fd ps sp) (i : ∀ ds st Q, sp' ds st Q → sp ds st Q) : FnD P w K mg base k f fd ps sp' :=
  ⟨fun vs H Q E ⟨ds, st, hid, Qd, r, S, h, g⟩ => F.len vs H Q E ⟨ds, st, hid, Qd, r, S, i _ _ _ h, g⟩, fun A outer s H args us vs Q E hg hr he hb hv ⟨ds, st, hid, Qd, r, S, h, g⟩ => F.run A outer s H args us vs Q E hg hr he hb hv ⟨ds, st, hid, Qd, r, S, i _ _ _ h, g⟩⟩
section
variable {P : Program} {w : World} {K : PySem.W.Frag} {mg : Str → Option Value} {base : Heap}
/-- the context in which a def's body runs -/
abbrev cxD (P : Program) (w : World) (K : PySem.W.Frag) (mg : Str → Option Value) (base : Heap) (N : List Str) (qual : Str) (sc : Scope) (f : Addr) (cd : Value) (A : Around) (outer : List Env) (s : Shared) (H : Hp) (E : XK) : Cx := (cxOf CX0 P w K mg base N qual sc f cd A outer s H E).nox
def startD (N : List Str) (ds : List D) : Ed := ds.map some ++ List.replicate (N.length - ds.length) none
theorem re_start {st : Sto} {H : Hp} {N : List Str} {vs : List V} {ds : List D} (r : DvsD K st H vs ds) : RE K st H (L2.start N vs) (startD N ds) := by
  have hl := Paired.length r
  refine ⟨by unfold L2.start startD; simp [hl], fun i d h => ?_⟩
  unfold startD at h
  by_cases hi : i < ds.length
  · rw [List.getElem?_append_left (by simpa using hi), List.getElem?_map] at h
    cases q : ds[i]? with
    | none =>
      rw [q] at h
      cases h
    | some d' =>
      rw [q] at h
      cases Option.some.inj (Option.some.inj h)
      obtain ⟨v, h1, h2⟩ := r.get q
      refine ⟨v, ?_, h2⟩
      unfold L2.start
      rw [List.getElem?_append_left (by simpa [hl] using hi), List.getElem?_map, h1]
      rfl
  · rw [List.getElem?_append_right (by simpa using hi), List.getElem?_replicate] at h
    split at h <;> cases h
theorem fnD_ok {x qual : Str} {st : Stmt} {f : Addr} {fd : FuncData} {N ps : List Str} {k : Nat} {sp : SpD} {t : TSd} (F : Fun K x qual st f fd) (S : FnScope N ps (defScope st)) (len : ∀ ds s Q, sp ds s Q → ds.length = ps.length)
    (hbody : ∀ (cd : Value) (A : Around) (outer : List Env) (s : Shared) (H : Hp) (E : XK), A.guards = some [] → Room k (A.deeper (envOfC qual (defScope st) s.heap.objs.size f cd)) → PDSs (cxD P w K mg base N qual (defScope st) f cd A outer s H E) (defBody st) t)
    (hsp : ∀ ds s Q, sp ds s Q → t { nx := fun _ s' => Q (.d .none) s', rt := Q } (startD N ds) s) : FnD P w K mg base (k + 1) f fd ps sp := by
  obtain ⟨oc, od, kV, doc, pm, an, cd, ct, osl, rfl, lk, hcd⟩ := F.ex
  have lenV : ∀ vs H Q E, upSp K sp vs H Q E → vs.length = ps.length := fun vs H Q E ⟨ds, s, hid, Qd, r, _, h, _⟩ => (Paired.length r).trans (len ds s Qd h)
  refine ⟨lenV, fun A outer s H args us vs Q E hg hr e0 hb r hq => ?_⟩
  have KX : K.In s.heap := e0.mod.kin.keeps fun b o e => (e0.bs b o e).1
  have lim : s.heap.NoLimit := e0.mod.nolimit.keeps fun b o e => (e0.bs b o e).1
  have hkind : ∀ y ∈ ps.zip us, (defScope st).names.lookup y.1 = some .local ∨ ((defScope st).names.lookup y.1 = some .cell ∧ ((cellsFrom (s.heap.objs.size + 1) (defScope st).names []).lookup y.1).isSome = true) := fun y hy =>
    (S.par y.1 (List.of_mem_zip (show (y.1, y.2) ∈ ps.zip us from hy)).1).elim .inl fun q => .inr ⟨q, PySem.W.cellsFrom_some _ _ _ (.inl q)⟩
  refine codeAny_call_function hr.depth (KX _ _ lk) rfl S.co S.gen rfl (PySem.W.codeRec_of KX hcd) (hb _ _ _ _ (wpAny_newFunctionEnv_cells S.kind hkind fun env he s1 x1 => ?_))
  subst he
  refine ⟨lim.keeps x1.toInCall.keep, codeAny_func ?_⟩
  have ht := (hbody cd A outer s H E hg (hr.deeper _)).nox
  have I := inv_start (CX := CX0) (K := K) (mg := mg) (base := base) (E := E) S hr.hd e0 (lenV _ _ _ _ hq) r x1
  obtain ⟨ds, sd, hid, Qd, rd, Sd, hd, gd⟩ := hq
  have rdy : upS K t { nx := fun _ H' => Q .non H', rt := Q } (L2.start N vs) H := by
    refine ⟨startD N ds, sd, hid, { nx := fun _ s' => Qd (.d .none) s', rt := Qd }, re_start rd, Sd, hsp ds sd Qd hd, ?_, gd, ?_, ?_⟩
    · exact fun _ H' _ st' F' S' _ q => gd .non H' _ st' F' S' (.d .non) q
    · exact fun _ _ _ _ _ _ _ q => q.elim
    · exact fun _ _ _ _ _ _ _ q => q.elim
  refine wpAny_mono (ht.run [] s1 (L2.start N vs) H _ I rdy) (fun fl s' hs => ?_) fun e s' hs => hs
  cases fl with
  | ret u =>
    obtain ⟨v, σ', H', J, rv, q⟩ := hs
    exact ⟨v, H', J.os, J.bare, J.base, J.hok, rv, q⟩
  | next =>
    obtain ⟨σ', H', J, q⟩ := hs
    exact ⟨.non, H', J.os, J.bare, J.base, J.hok, rfl, q⟩
  | brk =>
    obtain ⟨_, _, _, q⟩ := hs
    exact False.elim q
  | cont =>
    obtain ⟨_, _, _, q⟩ := hs
    exact False.elim q
end
/-! ### calls of defs -/
section
variable {X : Cx} {k : Nat} {f : Addr} {fd : FuncData} {ps ks : List Str} {sp : SpD} {dds : List D} {ds : List Value} {x : Str} {p pos : Pos} {e : Expr} {es : List Expr} {kws : List Keyword} {t tk : TAd}
theorem run_fg {pins : List (Addr × Obj)} {σ : L2.St} {H : Hp} {s : Shared} {Q : VK} {us ws : List Value} {kw : List (Str × Value)} {vs : List V} {S : Sp} (F : FnG X.prog X.w X.K X.mg X.base k f fd ps S) (hG : X.A.guards = some []) (hr : Room k X.A)
    (I : Inv X pins σ H s) (hb : us.length = ps.length → BindsTo s fd ⟨ws, kw⟩ (ps.zip us)) (r : Vals vs us) (h : S vs H Q E0) : wpAny (model X.prog X.w) X.A (call (.ref f) ws kw) (EP X pins σ Q) X.xe s := by
  have hl : us.length = ps.length := by
    rw [← r.length]
    exact F.len _ _ _ _ h
  refine wpAny_call (codeAny_mono (F.run X.A X.stack s H ⟨ws, kw⟩ us vs Q E0 hG hr I.env0 (hb hl) r h) fun r s' hq => ?_)
  cases r with
  | error e => exact False.elim hq
  | ok fl =>
    cases fl with
    | ret u => exact I.after hq
    | next => exact False.elim hq
    | brk => exact False.elim hq
    | cont => exact False.elim hq
def dFn (sp : SpD) (dds : List D) (t : TAd) : TEd := fun e st Q => t e st fun xs st1 => sp (xs ++ dds) st1 Q
/-- f(e, ..), the rest by defaults -/
theorem pd_fn (F : FnD X.prog X.w X.K X.mg X.base k f fd ps sp) (hG : X.A.guards = some []) (hr : Room k X.A) (hg : Gl X x) (hm : X.mg x = some (.ref f)) (hk : PySem.W.keepIn X.K (.ref f) = true) (hb : Binds X.K fd ps ds)
    (hd : ∃ dvs, Vals dvs ds ∧ ∀ st H, DvsD X.K st H dvs dds) (ha : PDA X (e :: es) t) (hdb : (x == ("__debug__" : Str)) = false := by decide) (he : starEach (e :: es) X.env = (false, eval e X.env) :: starEach es X.env := by rfl)
    (hpl : (backTo pos (starEach es X.env)).any (·.1) = false := by rfl) : PD X (.Call (.Name x p) (e :: es) [] pos) (dFn sp dds t) := by
  refine ⟨fun pins s σ H Q I ⟨en, st, hid, Qd, re, S, h, g⟩ => ?_⟩
  obtain ⟨dvs, hv, hdd⟩ := hd
  refine wpAny_Call_Name_kw (ld_glob I hg hm (PySem.W.callWith_K (h₀ := X.base) I.ok.mod.kin hk (thn (ha.run pos pins s σ H (fun vs H1 => upSp X.K sp (vs ++ dvs) H1 Q E0) I ⟨en, st, hid, _, re, S, h, fun vs H1 ds1 st1 F1 S1 r1 h1 => ?_⟩) fun us s1 ⟨vs, H1, I1, r, q⟩ => ⟨I1.kIn, ?_⟩) he hpl) hdb)
  · exact ⟨_, st1, hid, Qd, DvsD.append r1 (hdd _ _), S1, h1, Go.mono g F1⟩
  · exact run_fg F hG hr I1 (fun hl => hb _ us I1.kIn hl) (r.append hv) q
def pick {α : Type} (ix : List Nat) (xs : List α) : List α := ix.filterMap fun i => xs[i]?
theorem pick_pair {α β : Type} {R : α → β → Prop} {xs : List α} {ys : List β} (r : Paired R xs ys) : ∀ ix : List Nat, Paired R (pick ix xs) (pick ix ys)
  | [] => .nil
  | i :: ix => by
    have ih := pick_pair r ix
    have key : ∀ {xs : List α} {ys : List β} (i : Nat), Paired R xs ys → (xs[i]? = none ∧ ys[i]? = none) ∨ ∃ x y, xs[i]? = some x ∧ ys[i]? = some y ∧ R x y := by
      intro xs ys i r
      induction r generalizing i with
      | nil => exact .inl ⟨by simp, by simp⟩
      | cons h t ih =>
        cases i with
        | zero => exact .inr ⟨_, _, rfl, rfl, h⟩
        | succ i => simpa using ih i
    unfold pick at ih ⊢
    rw [List.filterMap_cons, List.filterMap_cons]
    rcases key i r with ⟨h1, h2⟩ | ⟨x, y, h1, h2, h3⟩
    · rw [h1, h2]
      exact ih
    · rw [h1, h2]
      exact .cons h3 ih
/-- the keywords' values -/
abbrev PDK (X : Cx) (kws : List Keyword) (t : TAd) : Prop := PK X kws (upA X.K t)
theorem PK.imp {X : Cx} {kws : List Keyword} {t t' : TA} (h : PK X kws t) (i : ∀ σ H Q, t' σ H Q → t σ H Q) : PK X kws t' := ⟨fun pos pins s σ H Q I w => h.run pos pins s σ H Q I (i σ H Q w)⟩
theorem pdk_nil : PDK X [] dNil := PK.imp pk_nil fun σ H Q ⟨e, st, hid, Qd, re, S, h, k⟩ => k [] H [] st (Fr.refl _ _) S .nil h
theorem pdk_cons {nm : Option Str} {kpos : Pos} {te : TEd} (ha : PD X e te) (hr : PDK X kws t) : PDK X (⟨nm, e, kpos⟩ :: kws) (dCons te t) :=
  PK.imp (pk_cons ha hr) fun σ H Q ⟨e, st, hid, Qd, re, S, h, k⟩ => ⟨e, st, hid, _, re, S, h, fun v1 H1 d1 st1 F1 S1 r1 h1 => ⟨e, st1, hid, _, re.mono F1 S.sr, S1, h1, fun vs H2 ds st2 F2 S2 r2 h2 =>
    k _ H2 (d1 :: ds) st2 (Fr.trans F1 F2) S2 (.cons (r1.mono F2 S1.sr) r2) h2⟩⟩
def dFnK (sp : SpD) (ix : List Nat) (t : TAd) : TEd := fun e st Q => t e st fun xs st1 => sp (pick ix xs) st1 Q
/-- f(k = v, ..), all by keywords -/
theorem pd_fnK (F : FnD X.prog X.w X.K X.mg X.base k f fd ps sp) (hG : X.A.guards = some []) (hr : Room k X.A) (hg : Gl X x) (hm : X.mg x = some (.ref f)) (hk : PySem.W.keepIn X.K (.ref f) = true) (ix : List Nat)
    (hb : ∀ (s : Shared) (ws : List Value), ws.length = ks.length → BindsTo s fd ⟨[], ks.zip ws⟩ (ps.zip (pick ix ws))) (hn : (pick ix ks).length = ps.length → True) (hkw : PDK X kws t)
    (hall : (backToKw pos (keywordEach kws X.env)).all (·.1.isSome) = true := by rfl) (hks : (backToKw pos (keywordEach kws X.env)).filterMap (·.1) = ks := by rfl) (hl : ∀ us : List Value, (pick ix us).length = ps.length → us.length = ks.length)
    (hdb : (x == ("__debug__" : Str)) = false := by decide) (hpl : (backToKw pos (keywordEach kws X.env)).any (·.1.isNone) = false := by rfl) : PD X (.Call (.Name x p) [] kws pos) (dFnK sp ix t) := by
  refine ⟨fun pins s σ H Q I ⟨en, st, hid, Qd, re, S, h, g⟩ => ?_⟩
  refine wpAny_Call_Name_kw (ld_glob I hg hm (PySem.W.callWith_KW0 (h₀ := X.base) I.ok.mod.kin hk hall (thn (hkw.run pos pins s σ H (fun vs H1 => upSp X.K sp (pick ix vs) H1 Q E0) I ⟨en, st, hid, _, re, S, h, fun vs H1 ds1 st1 F1 S1 r1 h1 => ?_⟩) fun us s1 ⟨vs, H1, I1, r, q⟩ => ⟨I1.kIn, ?_⟩) hpl) hdb)
  · exact ⟨_, st1, hid, Qd, pick_pair r1 ix, S1, h1, Go.mono g F1⟩
  · rw [hks]
    exact run_fg F hG hr I1 (fun hl' => hb s1 us (hl us hl')) (pick_pair r ix) q
end
end DL
namespace DL
open PySem PySem.Spec PyProof.Rows L2
variable [Tabs]
/-- a code object's table, as it stands behind the top -/
abbrev tab0 : Obj := { cls := .none, data := .fields #[] }
abbrev scr0 (vs : List Value) : Obj := { cls := .type "list", data := .seq vs.toArray }
/-- what is no list or tuple and no table stands there still -/
def PlainK (h base : Heap) : Prop := ∀ (b : Addr) (o : Obj), h.get? b = some o → (∀ us n, o.data ≠ .seq us n) → o.data ≠ .fields #[] → base.get? b = some o
/-- the law's call, from its def's promise; cs: code objects whose tables may grow -/
theorem lawG {P : Program} {w : World} {K : PySem.W.Frag} {mg mb : Str → Option Value} {k : Nat} {fa a : Addr} {fd : FuncData} {x : Str} {sp : SpD} {s₁ : Shared} {vs : List Value} {ns : List Int} {cs : List (Addr × Addr)} (hcs : (Tabs.tp : List Addr) = cs.map (·.2))
    (KX : K.In s₁.heap) (hns : s₁.heap.Ns mainGlobals mg) (hbn : s₁.heap.Ns builtinsNs mb) (hbb : ∀ x : Str, x ≠ "__name__" → mb x = bootBuiltins x) (hlim : s₁.heap.NoLimit) (hgens : s₁.gens = #[])
    (hT : ∀ p ∈ cs, s₁.heap.get? p.2 = some tab0) (nT : ∀ p ∈ cs, K.lookup p.2 = none) (hC : ∀ p ∈ cs, PySem.W.CodeHd s₁.heap p.1 p.2)
    (hbm : ∃ (bm : Addr) (ob : Obj), mg "__builtins__" = some (.ref bm) ∧ bm ≠ builtinsNs ∧ s₁.heap.get? bm = some ob ∧ ob.cls = .type "module" ∧ ob.dict = some builtinsNs ∧ ob.data = .plain)
    (ha : s₁.heap.get? a = some (scr0 vs)) (hi : IntsAre vs ns) (hl : ns.length ≤ sizeLine) (hr : Room k callerA)
    (F : ∀ base : Heap, K.In base → base.Ns mainGlobals mg → (∀ p ∈ cs, GxR.TabB base mg p.1 p.2) → PlainK s₁.heap base → FnD P w K mg base k fa fd [x] sp) (hbind : ∀ (s : Shared) (u : Value), BindsTo s fd ⟨[u], []⟩ [(x, u)])
    (hsp : sp [.scr ns] (fun _ => none) fun d _ => d = .d (.bool true)) :
    codeAny (model P w) callerA (.call (.ref fa) ⟨[.ref a], []⟩) (fun r s' => r = .ok (.ret (.bool true)) ∧ OldK s₁.heap s'.heap ∧ s'.os = s₁.os ∧ AllBare s'.gens) s₁ := by
  have rv := vals_ints hi
  have lenV := hi.length
  have inT : ∀ b : Addr, b ∈ (Tabs.tp : List Addr) → ∃ p ∈ cs, p.2 = b := fun b hb => by
    rw [hcs] at hb
    exact List.mem_map.mp hb
  have isT : ∀ b : Addr, b ∈ (Tabs.tp : List Addr) → s₁.heap.get? b = some tab0 := fun b hb => by
    obtain ⟨p, hp, e⟩ := inT b hb
    exact e ▸ hT p hp
  have tT : ∀ p ∈ cs, p.2 ∈ (Tabs.tp : List Addr) := fun p hp => by
    rw [hcs]
    exact List.mem_map.mpr ⟨p, hp, rfl⟩
  have aT : a ∉ (Tabs.tp : List Addr) := fun z => by
    have q := (isT a z).symm.trans ha
    have q2 : (Data.fields #[] : Data) = Data.seq vs.toArray _ := congrArg Obj.data (Option.some.inj q)
    cases q2
  have core : ∀ H : Hp, (∀ b, H b = none ∨ (b ∈ (Tabs.tp : List Addr) ∧ H b = some (.tbl #[])) ∨ (b = a ∧ H a = some (.frz (scr0 vs) (.lst (ns.map V.int))))) → (∀ b ∈ (Tabs.tp : List Addr), H b = some (.tbl #[])) → DvD K (fun _ => none) H (.ref a) (.scr ns) → (H a ≠ none → K.lookup a = none) →
      codeAny (model P w) callerA (.call (.ref fa) ⟨[.ref a], []⟩) (fun r s' => r = .ok (.ret (.bool true)) ∧ OldK s₁.heap s'.heap ∧ s'.os = s₁.os ∧ AllBare s'.gens) s₁ := by
    intro H hO hH hS hK
    have hok : HOk P w H s₁.heap := fun b u z => by
      rcases hO b with q | ⟨h1, q⟩ | ⟨rfl, q⟩
      · rw [z] at q
        cases q
      · rw [z] at q
        cases q
        exact isT b h1
      · rw [z] at q
        cases q
        exact ⟨ha, by rw [List.length_map]; exact hl, vs, _, rv, ha⟩
    have base_of : ∀ {b : Addr} {o : Obj}, s₁.heap.get? b = some o → H b = none → (hidT s₁.heap H).get? b = some o := fun e n => hidT_get e n
    have plainly : ∀ {b : Addr} {o : Obj}, s₁.heap.get? b = some o → (∀ us n, o.data ≠ .seq us n) → o.data ≠ .fields #[] → H b = none := fun {b o} e d1 d2 => by
      rcases hO b with q | ⟨h1, _⟩ | ⟨rfl, _⟩
      · exact q
      · have := Option.some.inj ((isT b h1).symm.trans e)
        exact absurd (by rw [← this]) d2
      · have := Option.some.inj (ha.symm.trans e)
        exact absurd (by rw [← this] : o.data = (scr0 vs).data) (d1 _ _)
    have noA : ∀ {b : Addr} {o : Obj} {es : Array DictEntry} {ep : Nat}, s₁.heap.get? b = some o → o.data = .dict es ep → H b = none := fun {b o es ep} e d =>
      plainly e (fun us n z => by rw [d] at z; cases z) (fun z => by rw [d] at z; cases z)
    have nsK : ∀ {b : Addr} {m : Str → Option Value}, s₁.heap.Ns b m → (hidT s₁.heap H).Ns b m := fun {b m} ⟨o, es, ep, e, d, r⟩ => ⟨o, es, ep, base_of e (noA e d), d, r⟩
    have hKb : K.In (hidT s₁.heap H) := fun b o e => base_of (KX b o e) (by
      rcases hO b with q | ⟨h1, _⟩ | ⟨rfl, q⟩
      · exact q
      · obtain ⟨p, hp, ep⟩ := inT b h1
        rw [← ep, nT p hp] at e
        cases e
      · rw [hK (by rw [q]; simp)] at e
        cases e)
    have hM : Mod K mg (hidT s₁.heap H) := ⟨hKb, nsK hns, ⟨mb, nsK hbn, hbb⟩, let ⟨mc, h1, h2⟩ := hlim; ⟨mc, nsK h1, h2⟩⟩
    have e0 : Env0 P w K mg (hidT s₁.heap H) callerA [] s₁ H := ⟨rfl, hM, fun b o e => of_hidT e, Nat.le_of_eq (hidT_size _ _), trivial, fun b hb => absurd (show b ∈ ([] : List Addr) from hb) (by simp), hok, .of_eq hgens⟩
    have TB : ∀ p ∈ cs, GxR.TabB (hidT s₁.heap H) mg p.1 p.2 := fun p hp => by
      have hTp := hT p hp
      constructor
      · obtain ⟨o, us, file, tf, flags, tg, inF, text, tt, e1, r1, r2, r3, rest⟩ := hC p hp
        exact ⟨o, us, file, tf, flags, tg, inF, text, tt, base_of e1 (plainly e1 (fun us n z => by rw [r2] at z; cases z) fun z => by
          rw [r2] at z
          cases z
          simp at r3), r1, r2, r3, rest⟩
      · obtain ⟨bm, ob, b1, b2, b3, b4, b5, b6⟩ := hbm
        refine ⟨bm, ob, b1, b2, fun q => ?_, fun q => ?_, base_of b3 (plainly b3 (fun us n z => by rw [b6] at z; cases z) fun z => by rw [b6] at z; cases z), b4, b5, b6⟩
        · obtain ⟨o, es, ep, e, hd, _⟩ := hns
          have := Option.some.inj ((q ▸ b3 : s₁.heap.get? mainGlobals = some ob).symm.trans e)
          rw [← this, b6] at hd
          cases hd
        · have := Option.some.inj ((q ▸ b3 : s₁.heap.get? p.2 = some ob).symm.trans hTp)
          rw [this] at b6
          cases b6
      · intro q
        obtain ⟨o, es, ep, e, hd, _⟩ := hns
        have := Option.some.inj ((q ▸ e : s₁.heap.get? p.2 = some o).symm.trans hTp)
        rw [this] at hd
        cases hd
    have S0 : Sx K (fun _ => none) (fun _ => none) H := ⟨fun _ _ => rfl, (fun b ds z => by cases z), fun b hb => ⟨#[], hH b hb, trivial⟩⟩
    have hq : upSp K sp [.ref a] H (fun v _ => v = .bl true) (fun _ _ _ => False) := ⟨[.scr ns], (fun _ => none), (fun _ => none), (fun d _ => d = .d (.bool true)), .cons (show DvD K (jn (fun _ => none) (fun _ => none)) H (.ref a) (.scr ns) from hS) .nil, S0, hsp, fun v H' d st' F' S' r q => by
      subst q
      cases r with
      | d r =>
        cases r with
        | bl b => rfl⟩
    refine codeAny_mono ((F _ hKb (nsK hns) TB fun b o e d1 d2 => base_of e (plainly e d1 d2)).run callerA [] s₁ H ⟨[.ref a], []⟩ [.ref a] [.ref a] _ _ rfl hr e0 (hbind s₁ (.ref a)) (.cons rfl .nil) hq) fun r s' h => ?_
    cases r with
    | error e => exact False.elim h
    | ok fl =>
      cases fl with
      | next => exact False.elim h
      | brk => exact False.elim h
      | cont => exact False.elim h
      | ret u =>
        obtain ⟨v, H', os, bare, un, hok', r', q⟩ := h
        cases (show v = .bl true from q)
        cases (show u = Value.bool true from r')
        have key : ∀ b o, b ∉ (Tabs.tp : List Addr) → s₁.heap.get? b = some o → s'.heap.get? b = some o := fun b o nb e => by
          rcases hO b with q | ⟨h1, _⟩ | ⟨rfl, q⟩
          · exact un.keep b o e q (by intro z; exact absurd (show b ∈ ([] : List Addr) from z) (by simp)) (by simp)
          · exact absurd h1 nb
          · obtain ⟨e2, _⟩ := hok' b _ (un.frzs b _ _ q)
            rw [← ha.symm.trans e]
            exact e2
        have grown : ∀ b ∈ (Tabs.tp : List Addr), ∃ more : Array Value, s'.heap.get? b = some { cls := .none, data := .fields more } := fun b hb => by
          obtain ⟨more, z⟩ := un.tbls b #[] (hH b hb)
          exact ⟨_, hok' b _ z⟩
        refine ⟨rfl, ⟨fun b o e => ?_, fun b o e => ?_⟩, os, bare⟩
        · by_cases hb : b ∈ (Tabs.tp : List Addr)
          · obtain ⟨more, hm⟩ := grown b hb
            obtain ⟨p, hp, rfl⟩ := inT b hb
            cases (hT p hp).symm.trans e
            exact .inr (.inl ⟨((hC p hp).tab (hT p hp)).isCodeTable, rfl, #[], more, rfl, by rw [Array.empty_append]; exact hm⟩)
          · exact .inl (key b o hb e)
        · by_cases hb : b ∈ (Tabs.tp : List Addr)
          · obtain ⟨more, hm⟩ := grown b hb
            exact ⟨_, hm⟩
          · exact ⟨o, key b o hb e⟩
  cases hk : K.lookup a with
  | some o =>
    have e := KX a o hk
    rw [ha] at e
    cases e
    have hS : SqL K (fun _ => none) a (ns.map V.int) := .inr ⟨_, vs.toArray, _, hk, rfl, rfl, rfl, by rw [List.size_toArray, lenV]; exact hl, by simpa using rv⟩
    refine core (fun b => if b ∈ (Tabs.tp : List Addr) then some (.tbl #[]) else none) (fun b => ?_) (fun b hb => if_pos hb) (.scr (.inr ⟨_, vs.toArray, _, hk, rfl, rfl, rfl, by rw [List.size_toArray, lenV]; exact hl, by simpa using rv⟩) (.inr hS)) fun z => absurd (if_neg aT) z
    by_cases hb : b ∈ (Tabs.tp : List Addr)
    · exact .inr (.inl ⟨hb, if_pos hb⟩)
    · exact .inl (if_neg hb)
  | none =>
    refine core (fun b => if b = a then some (.frz (scr0 vs) (.lst (ns.map V.int))) else if b ∈ (Tabs.tp : List Addr) then some (.tbl #[]) else none) (fun b => ?_) (fun b hb => ?_) (.scr (.inl (.inr ⟨_, if_pos rfl⟩)) (.inl ⟨_, if_pos rfl⟩)) fun _ => hk
    · by_cases hb : b = a
      · exact .inr (.inr ⟨hb, if_pos rfl⟩)
      · by_cases hb2 : b ∈ (Tabs.tp : List Addr)
        · exact .inr (.inl ⟨hb2, (if_neg hb).trans (if_pos hb2)⟩)
        · exact .inl ((if_neg hb).trans (if_neg hb2))
    · exact (if_neg fun z : b = a => aT (z ▸ hb)).trans (if_pos hb)
/-- the goal that k_head leaves -/
theorem walkG {l : PySem.W.OpenLaw} {n k : Nat} {q : Program} {loose : List Str} {XP : (Str → Option Value) → Heap → Prop} {YP : World → Heap → Prop} {d : DefRec} {K : Params → PySem.W.Frag} {sp : SpD} {x : Str} {cs : List (Addr × Addr)} (hcs : (Tabs.tp : List Addr) = cs.map (·.2))
    (hn : l.most = some n) (hn2 : n ≤ sizeLine) (hdf : d.params.defaults = []) (hr : Room k callerA) (hY : ∀ (w : World) (h : Heap), YP w h → (K w.params).In h)
    (hT : ∀ (w : World) (h : Heap), YP w h → (K w.params).In h → (∀ p ∈ cs, h.get? p.2 = some tab0) ∧ (∀ p ∈ cs, (K w.params).lookup p.2 = none) ∧ ∀ p ∈ cs, PySem.W.CodeHd h p.1 p.2)
    (F : ∀ (w : World) (mg : Str → Option Value) (fa : Addr) (h : Heap), YP w h → (K w.params).In h → h.Ns mainGlobals mg → mg d.name = some (.ref fa) →
      ∃ fd : FuncData, (∀ (s : Shared) (u : Value), BindsTo s fd ⟨[u], []⟩ [(x, u)]) ∧ ∀ base : Heap, (K w.params).In base → base.Ns mainGlobals mg → (∀ p ∈ cs, GxR.TabB base mg p.1 p.2) → PlainK h base → FnD l.prog w (K w.params) mg base k fa fd [x] sp)
    (hsp : ∀ ns : List Int, ns.length ≤ n → sp [.scr ns] (fun _ => none) fun d _ => d = .d (.bool true)) :
    PySem.W.WalkO q loose XP YP l.row.toRowW d [] (fun f vs => PySem.call f vs) := by
  refine Att.attach_call hn hdf fun w s₀ s₁ mg mb fa o pm cd doc a vs ns G Y ho hd hcd hmg hobj hints hlen hg => ?_
  have KX := hY w _ Y
  obtain ⟨t1, t2, t3⟩ := hT w _ Y KX
  obtain ⟨fd, hb, hF⟩ := F w mg fa _ Y KX G.T.g hmg
  exact lawG hcs KX G.T.g G.T.b G.T.builtins G.T.nolimit hg t1 t2 t3 G.T.bmain hobj hints (Nat.le_trans hlen hn2) hr hF hb (hsp ns hlen)
end DL
namespace DL
open PySem PySem.Spec PyProof.Rows L2
variable [Tabs]
theorem bt_len : bootBuiltins "len" = some (.builtin "len") := by decide +kernel
theorem bt_abs : bootBuiltins "abs" = some (.builtin "abs") := by decide +kernel
theorem bt_divmod : bootBuiltins "divmod" = some (.builtin "divmod") := by decide +kernel
theorem bt_all : bootBuiltins "all" = some (.builtin "all") := by decide +kernel
theorem bt_repr : bootBuiltins "repr" = some (.builtin "repr") := by decide +kernel
theorem bt_min : bootBuiltins "min" = some (.builtin "min") := by decide +kernel
theorem bt_max : bootBuiltins "max" = some (.builtin "max") := by decide +kernel
theorem bt_int : bootBuiltins "int" = some (.type "int") := by decide +kernel
theorem bt_bool : bootBuiltins "bool" = some (.type "bool") := by decide +kernel
theorem bt_str : bootBuiltins "str" = some (.type "str") := by decide +kernel
theorem bt_list : bootBuiltins "list" = some (.type "list") := by decide +kernel
theorem bt_tuple : bootBuiltins "tuple" = some (.type "tuple") := by decide +kernel
theorem bt_isinstance : bootBuiltins "isinstance" = some (.builtin "isinstance") := by decide +kernel
/-- {}, and a dict of one written pair -/
def dDict (ps : List (PyData × PyData)) : TEd := fun _ st Q => Q (.d (.dict ps)) st
theorem pd_dict0 {X : Cx} {pos : Pos} : PD X (.Dict [] [] pos) (dDict []) := PE.imp pe_dnewK fun σ H Q ⟨e, st, hid, Qd, re, S, h, k⟩ p hp =>
  Go.new k S hp (.d (.dic (kvs := []) (ps := []) upd_same (S.sr.free0 hp) .nil .nil)) h
theorem pd_dict1 {X : Cx} {pos p1 p2 : Pos} {x : Str} {i : Int} {j j2 : Nat} : PD X (.Dict [some (.Constant (.str x) j p1)] [.Constant (.int i) j2 p2] pos) (dDict [(.str x, .int i)]) :=
  PE.imp (pe_disp (pps_cons pe_str pe_int pps_nil) rfl rfl (by simp) (by show 1 ≤ 15; omega)) fun σ H Q ⟨e, st, hid, Qd, re, S, h, k⟩ p hp => by
    refine ⟨upd_same, [(Sum.inr x, .int i)], rfl, by show 1 ≤ 15; omega, ?_⟩
    rw [upd_upd]
    exact Go.new k S hp (.d (.dic (kvs := [(Sum.inr x, .int i)]) (ps := [(.str x, .int i)]) upd_same (S.sr.free0 hp) (.cons (.str x) .nil) (.cons (.int i) .nil))) h
theorem u65 {k : Nat} {A : Around} (r : Room k A) : A.units + 65 < cLine := by
  have := r.un
  omega
/-- a def of the text, callable with a promise -/
structure Can (P : Program) (w : World) (K : PySem.W.Frag) (mg : Str → Option Value) (base : Heap) (k : Nat) (x : Str) (st : Stmt) (ps : List Str) (sp : SpD) : Prop where
  ex : ∃ f fd, FnD P w K mg base k f fd ps sp ∧ mg x = some (.ref f) ∧ Fun K x x st f fd ∧ Binds K fd ps []
/-- where it stands -/
structure Has (K : PySem.W.Frag) (mg : Str → Option Value) (x : Str) (st : Stmt) : Prop where
  ex : ∃ f fd, mg x = some (.ref f) ∧ Fun K x x st f fd
section
variable {P : Program} {w : World} {K : PySem.W.Frag} {mg : Str → Option Value} {base : Heap}
theorem can_of {x : Str} {st : Stmt} {N ps : List Str} {k : Nat} {sp : SpD} {t : TSd} (F : Has K mg x st) (S : FnScope N ps (defScope st)) (len : ∀ ds s Q, sp ds s Q → ds.length = ps.length)
    (bind : ∀ (kV doc pm : Value) (an : Option Addr) (cdv ct : Value) (us : List Value), us.length = ps.length → bindArgs (PySem.W.fnOf x x (defArgs st) (defBody st) (defScope st) .none kV doc pm an cdv ct) ⟨us, []⟩ = pure (ps.zip us))
    (hbody : ∀ (f : Addr) (cd : Value) (A : Around) (outer : List Env) (s : Shared) (H : Hp) (E : XK), A.guards = some [] → Room k (A.deeper (envOfC x (defScope st) s.heap.objs.size f cd)) → PDSs (cxD P w K mg base N x (defScope st) f cd A outer s H E) (defBody st) t)
    (hsp : ∀ ds s Q, sp ds s Q → t { nx := fun _ s' => Q (.d .none) s', rt := Q } (startD N ds) s) : Can P w K mg base (k + 1) x st ps sp := by
  obtain ⟨f, fd, hm, F⟩ := F.ex
  exact ⟨f, fd, fnD_ok F S len (hbody f) hsp, hm, F, F.binds bind⟩
theorem Can.imp {x : Str} {st : Stmt} {ps : List Str} {k : Nat} {sp sp' : SpD} (C : Can P w K mg base k x st ps sp) (i : ∀ ds st Q, sp' ds st Q → sp ds st Q) : Can P w K mg base k x st ps sp' := by
  obtain ⟨f, fd, F, h⟩ := C.ex
  exact ⟨f, fd, FnD.imp F i, h⟩
theorem Can.lift {x : Str} {st : Stmt} {ps : List Str} {j k : Nat} {sp : SpD} (C : Can P w K mg base j x st ps sp) (h : j ≤ k) : Can P w K mg base k x st ps sp := by
  obtain ⟨f, fd, F, h'⟩ := C.ex
  exact ⟨f, fd, FnG.mono F h, h'⟩
end
section
variable {X : Cx} {k : Nat} {ps ks : List Str} {sp : SpD} {x : Str} {st : Stmt} {p pos : Pos} {e : Expr} {es : List Expr} {kws : List Keyword} {t tk : TAd}
def dFn0 (sp : SpD) (t : TAd) : TEd := fun e st Q => t e st fun xs st1 => sp xs st1 Q
theorem pd_call (C : Can X.prog X.w X.K X.mg X.base k x st ps sp) (hG : X.A.guards = some []) (hr : Room k X.A) (hg : Gl X x) (ha : PDA X (e :: es) t) (hdb : (x == ("__debug__" : Str)) = false := by decide)
    (he : starEach (e :: es) X.env = (false, eval e X.env) :: starEach es X.env := by rfl) (hpl : (backTo pos (starEach es X.env)).any (·.1) = false := by rfl) : PD X (.Call (.Name x p) (e :: es) [] pos) (dFn0 sp t) := by
  obtain ⟨f, fd, F, hm, Fn, B⟩ := C.ex
  refine PE.imp (pd_fn (dds := []) F hG hr hg hm Fn.kp B ⟨[], .nil, fun _ _ => .nil⟩ ha hdb he hpl) fun σ H Q ⟨e, s, hid, Qd, re, S, h, k⟩ => ⟨e, s, hid, Qd, re, S, ?_, k⟩
  have ee : (fun xs st1 => sp (xs ++ []) st1 Qd) = fun xs st1 => sp xs st1 Qd := by
    funext xs st1
    rw [List.append_nil]
  show t e s (fun xs st1 => sp (xs ++ []) st1 Qd)
  rw [ee]
  exact h
theorem pd_callK (C : Can X.prog X.w X.K X.mg X.base k x st ps sp) (hG : X.A.guards = some []) (hr : Room k X.A) (hg : Gl X x) (ix : List Nat)
    (hb : ∀ (kV doc pm : Value) (an : Option Addr) (cdv ct : Value) (ws : List Value), ws.length = ks.length → bindArgs (PySem.W.fnOf x x (defArgs st) (defBody st) (defScope st) .none kV doc pm an cdv ct) ⟨[], ks.zip ws⟩ = pure (ps.zip (pick ix ws)))
    (hkw : PDK X kws t)
    (hall : (backToKw pos (keywordEach kws X.env)).all (·.1.isSome) = true := by rfl) (hks : (backToKw pos (keywordEach kws X.env)).filterMap (·.1) = ks := by rfl)
    (hdb : (x == ("__debug__" : Str)) = false := by decide) (hpl : (backToKw pos (keywordEach kws X.env)).any (·.1.isNone) = false := by rfl) (hlen : ∀ e s Q, t e s Q → t e s fun xs s' => xs.length = ks.length ∧ Q xs s') : PD X (.Call (.Name x p) [] kws pos) (dFnK sp ix t) := by
  obtain ⟨f, fd, F, hm, Fn, B⟩ := C.ex
  obtain ⟨oc, od, kV, doc, pm, an, cd, ct, osl, rfl, lk, hcd⟩ := Fn.ex
  refine ⟨fun pins s σ H Q I ⟨en, sd, hid, Qd, re, S, h, g⟩ => ?_⟩
  refine wpAny_Call_Name_kw (ld_glob I hg hm (PySem.W.callWith_KW0 (h₀ := X.base) I.ok.mod.kin Fn.kp hall (thn (hkw.run pos pins s σ H (fun vs H1 => vs.length = ks.length ∧ upSp X.K sp (pick ix vs) H1 Q E0) I ⟨en, sd, hid, _, re, S, hlen _ _ _ h, fun vs H1 ds1 st1 F1 S1 r1 ⟨hl1, h1⟩ => ?_⟩) fun us s1 ⟨vs, H1, I1, r, hl, q⟩ => ⟨I1.kIn, ?_⟩) hpl) hdb)
  · exact ⟨(Paired.length r1).trans hl1, _, st1, hid, Qd, pick_pair r1 ix, S1, h1, Go.mono g F1⟩
  · rw [hks]
    exact run_fg F hG hr I1 (fun _ => .of_eq (hb kV doc pm an cd ct us (by rw [← r.length]; exact hl))) (pick_pair r ix) q
end
end DL
namespace DL
open PySem PySem.Spec PyProof.Rows L2
variable [Tabs]
/-! ### readings, run -/
theorem frz_d {Q : Kd} {x : PyData} {st : Sto} : frz Q (.d x) st = Q (.d x) st := propext ⟨fun h => h.elim _root_.id fun ⟨a, xs, z, _⟩ => (nomatch z), .inl⟩
theorem var_zero {d : D} {e : Ed} {st : Sto} {Q : Kd} : dVar 0 (some d :: e) st Q = Q d st := propext ⟨fun ⟨d', h, q⟩ => by
  cases h
  exact q, fun q => ⟨d, rfl, q⟩⟩
theorem var_succ {n : Nat} {x : Option D} {e : Ed} {st : Sto} {Q : Kd} : dVar (n + 1) (x :: e) st Q = dVar n e st Q := rfl
theorem var_set {i : Nat} {d : D} {e : Ed} {st : Sto} {Q : Kd} (h : i < e.length) : dVar i (e.set i (some d)) st Q = Q d st := propext ⟨fun ⟨d', h', q⟩ => by
  rw [List.getElem?_set_self h] at h'
  cases h'
  exact q, fun q => ⟨d, List.getElem?_set_self h, q⟩⟩
theorem var_ne {i j : Nat} {x : Option D} {e : Ed} {st : Sto} {Q : Kd} (h : j ≠ i) : dVar i (e.set j x) st Q = dVar i e st Q := by
  unfold dVar
  rw [List.getElem?_set_ne h]
theorem nil_go {e : Ed} {st : Sto} {Q : Ed → Sto → Prop} : hNil [] e st Q = Q e st := propext ⟨fun h => h.2, fun h => ⟨rfl, h⟩⟩
theorem put_put {st : Sto} {a : Addr} {xs ys : List D} : put (put st a xs) a ys = put st a ys := by
  funext b
  by_cases h : b = a
  · rw [h, put_same, put_same]
  · rw [put_ne h, put_ne h, put_ne h]
theorem own_some {d : PyData} {st : Sto} : (∀ a, D.d d = .own a → (st a).isSome = true) = True := propext ⟨fun _ => trivial, fun _ a z => nomatch z⟩
theorem kit_all {T : String} (hT : ∀ t ∈ ["NoneType", "bool", "int", "str", "tuple", "dict", "list"], (kitB t T).isSome = true) (d : PyData) : (kitB (tyD (.d d)) T).isSome = true := by
  refine hT _ ?_
  cases d <;> simp [tyD]
theorem kit_int (d : PyData) : ((kitB (tyD (.d d)) "int").isSome = true) = True := eq_true (kit_all (by decide +kernel) d)
theorem kit_bool (d : PyData) : ((kitB (tyD (.d d)) "bool").isSome = true) = True := eq_true (kit_all (by decide +kernel) d)
theorem kit_tuple (d : PyData) : ((kitB (tyD (.d d)) "tuple").isSome = true) = True := eq_true (kit_all (by decide +kernel) d)
theorem kit_str (d : PyData) : ((kitB (tyD (.d d)) "str").isSome = true) = True := eq_true (kit_all (by decide +kernel) d)
theorem is_int (x : PyData) : isT "int" (.d x) = match x with
    | .int _ => true
    | .bool _ => true
    | _ => false := by
  cases x with
  | none => exact (by decide +kernel : (kitB "NoneType" "int").getD false = false)
  | bool _ => exact (by decide +kernel : (kitB "bool" "int").getD false = true)
  | int _ => exact (by decide +kernel : (kitB "int" "int").getD false = true)
  | str _ => exact (by decide +kernel : (kitB "str" "int").getD false = false)
  | list _ => exact (by decide +kernel : (kitB "list" "int").getD false = false)
  | tuple _ => exact (by decide +kernel : (kitB "tuple" "int").getD false = false)
  | dict _ => exact (by decide +kernel : (kitB "dict" "int").getD false = false)
theorem is_bool (x : PyData) : isT "bool" (.d x) = match x with
    | .bool _ => true
    | _ => false := by
  cases x with
  | none => exact (by decide +kernel : (kitB "NoneType" "bool").getD false = false)
  | bool _ => exact (by decide +kernel : (kitB "bool" "bool").getD false = true)
  | int _ => exact (by decide +kernel : (kitB "int" "bool").getD false = false)
  | str _ => exact (by decide +kernel : (kitB "str" "bool").getD false = false)
  | list _ => exact (by decide +kernel : (kitB "list" "bool").getD false = false)
  | tuple _ => exact (by decide +kernel : (kitB "tuple" "bool").getD false = false)
  | dict _ => exact (by decide +kernel : (kitB "dict" "bool").getD false = false)
theorem is_tuple (x : PyData) : isT "tuple" (.d x) = match x with
    | .tuple _ => true
    | _ => false := by
  cases x with
  | none => exact (by decide +kernel : (kitB "NoneType" "tuple").getD false = false)
  | bool _ => exact (by decide +kernel : (kitB "bool" "tuple").getD false = false)
  | int _ => exact (by decide +kernel : (kitB "int" "tuple").getD false = false)
  | str _ => exact (by decide +kernel : (kitB "str" "tuple").getD false = false)
  | list _ => exact (by decide +kernel : (kitB "list" "tuple").getD false = false)
  | tuple _ => exact (by decide +kernel : (kitB "tuple" "tuple").getD false = true)
  | dict _ => exact (by decide +kernel : (kitB "dict" "tuple").getD false = false)
theorem is_str (x : PyData) : isT "str" (.d x) = match x with
    | .str _ => true
    | _ => false := by
  cases x with
  | none => exact (by decide +kernel : (kitB "NoneType" "str").getD false = false)
  | bool _ => exact (by decide +kernel : (kitB "bool" "str").getD false = false)
  | int _ => exact (by decide +kernel : (kitB "int" "str").getD false = false)
  | str _ => exact (by decide +kernel : (kitB "str" "str").getD false = true)
  | list _ => exact (by decide +kernel : (kitB "list" "str").getD false = false)
  | tuple _ => exact (by decide +kernel : (kitB "tuple" "str").getD false = false)
  | dict _ => exact (by decide +kernel : (kitB "dict" "str").getD false = false)
theorem line_small {n : Nat} (h : n ≤ 1000) : (n ≤ sizeLine) = True := eq_true (Nat.le_trans h (by decide))
theorem pures_nil : pures [] = some [] := rfl
theorem pures_cons {x : PyData} {r : List D} : pures (.d x :: r) = (pures r).map (x :: ·) := rfl
theorem no_own {p : Prop} : (∀ a : Addr, False → p) = True := propext ⟨fun _ => trivial, fun _ _ z => z.elim⟩
theorem no_own2 {p : Addr → Prop} : (∀ a : Addr, False → p a) = True := propext ⟨fun _ => trivial, fun _ _ z => z.elim⟩
theorem eqv_int {i j : Int} : (PyData.int i).eqv (.int j) = decide (i = j) := by
  show (i == j) = _
  rw [Bool.eq_iff_iff]
  simp
theorem sh_int {i : Int} : (SeqAt.shaped (.int i) = true) = True := eq_true (by simp [SeqAt.shaped, PyData.canLay0, PyData.depth])
theorem sh_bool {i : Bool} : (SeqAt.shaped (.bool i) = true) = True := eq_true (by simp [SeqAt.shaped, PyData.canLay0, PyData.depth])
theorem ixt_0 {a : PyData} {r : List PyData} {st : Sto} {Q : Kd} : rIxD (.d (.tuple (a :: r))) (.d (.int 0)) st Q = Q (.d a) st := propext ⟨fun h => by
  obtain ⟨v, h, q⟩ := h
  have e : atI (a :: r) 0 = some a := atI_nat (j := 0) rfl
  rw [e] at h
  cases h
  exact q, fun q => ⟨_, atI_nat (j := 0) rfl, q⟩⟩
theorem ixl_0 {a : PyData} {r : List PyData} {st : Sto} {Q : Kd} : rIxD (.d (.list (a :: r))) (.d (.int 0)) st Q = Q (.d a) st := propext ⟨fun h => by
  obtain ⟨ds, v, e, h, q⟩ := h
  cases e
  have e : atI ((a :: r).map D.d) 0 = some (D.d a) := atI_nat (j := 0) rfl
  rw [e] at h
  cases h
  exact q, fun q => ⟨_, _, rfl, atI_nat (j := 0) rfl, q⟩⟩
theorem ixt_1 {a b : PyData} {r : List PyData} {st : Sto} {Q : Kd} : rIxD (.d (.tuple (a :: b :: r))) (.d (.int 1)) st Q = Q (.d b) st := propext ⟨fun h => by
  obtain ⟨v, h, q⟩ := h
  have e : atI (a :: b :: r) 1 = some b := atI_nat (j := 1) rfl
  rw [e] at h
  cases h
  exact q, fun q => ⟨_, atI_nat (j := 1) rfl, q⟩⟩
theorem ixl_1 {a b : PyData} {r : List PyData} {st : Sto} {Q : Kd} : rIxD (.d (.list (a :: b :: r))) (.d (.int 1)) st Q = Q (.d b) st := propext ⟨fun h => by
  obtain ⟨ds, v, e, h, q⟩ := h
  cases e
  have e : atI ((a :: b :: r).map D.d) 1 = some (D.d b) := atI_nat (j := 1) rfl
  rw [e] at h
  cases h
  exact q, fun q => ⟨_, _, rfl, atI_nat (j := 1) rfl, q⟩⟩
theorem ixt_2 {a b c : PyData} {r : List PyData} {st : Sto} {Q : Kd} : rIxD (.d (.tuple (a :: b :: c :: r))) (.d (.int 2)) st Q = Q (.d c) st := propext ⟨fun h => by
  obtain ⟨v, h, q⟩ := h
  have e : atI (a :: b :: c :: r) 2 = some c := atI_nat (j := 2) rfl
  rw [e] at h
  cases h
  exact q, fun q => ⟨_, atI_nat (j := 2) rfl, q⟩⟩
theorem ixl_2 {a b c : PyData} {r : List PyData} {st : Sto} {Q : Kd} : rIxD (.d (.list (a :: b :: c :: r))) (.d (.int 2)) st Q = Q (.d c) st := propext ⟨fun h => by
  obtain ⟨ds, v, e, h, q⟩ := h
  cases e
  have e : atI ((a :: b :: c :: r).map D.d) 2 = some (D.d c) := atI_nat (j := 2) rfl
  rw [e] at h
  cases h
  exact q, fun q => ⟨_, _, rfl, atI_nat (j := 2) rfl, q⟩⟩
theorem ixt_3 {a b c d : PyData} {r : List PyData} {st : Sto} {Q : Kd} : rIxD (.d (.tuple (a :: b :: c :: d :: r))) (.d (.int 3)) st Q = Q (.d d) st := propext ⟨fun h => by
  obtain ⟨v, h, q⟩ := h
  have e : atI (a :: b :: c :: d :: r) 3 = some d := atI_nat (j := 3) rfl
  rw [e] at h
  cases h
  exact q, fun q => ⟨_, atI_nat (j := 3) rfl, q⟩⟩
theorem ixl_3 {a b c d : PyData} {r : List PyData} {st : Sto} {Q : Kd} : rIxD (.d (.list (a :: b :: c :: d :: r))) (.d (.int 3)) st Q = Q (.d d) st := propext ⟨fun h => by
  obtain ⟨ds, v, e, h, q⟩ := h
  cases e
  have e : atI ((a :: b :: c :: d :: r).map D.d) 3 = some (D.d d) := atI_nat (j := 3) rfl
  rw [e] at h
  cases h
  exact q, fun q => ⟨_, _, rfl, atI_nat (j := 3) rfl, q⟩⟩
theorem ixt_4 {a b c d e : PyData} {r : List PyData} {st : Sto} {Q : Kd} : rIxD (.d (.tuple (a :: b :: c :: d :: e :: r))) (.d (.int 4)) st Q = Q (.d e) st := propext ⟨fun h => by
  obtain ⟨v, h, q⟩ := h
  have e : atI (a :: b :: c :: d :: e :: r) 4 = some e := atI_nat (j := 4) rfl
  rw [e] at h
  cases h
  exact q, fun q => ⟨_, atI_nat (j := 4) rfl, q⟩⟩
theorem ixl_4 {a b c d e : PyData} {r : List PyData} {st : Sto} {Q : Kd} : rIxD (.d (.list (a :: b :: c :: d :: e :: r))) (.d (.int 4)) st Q = Q (.d e) st := propext ⟨fun h => by
  obtain ⟨ds, v, e, h, q⟩ := h
  cases e
  have e : atI ((a :: b :: c :: d :: e :: r).map D.d) 4 = some (D.d e) := atI_nat (j := 4) rfl
  rw [e] at h
  cases h
  exact q, fun q => ⟨_, _, rfl, atI_nat (j := 4) rfl, q⟩⟩
/-- a comprehension whose element is a function of the item -/
theorem lcV_pure {ti : TId} {i : Nat} {te : TEd} {e : Ed} {st : Sto} {Q : Kd} (xs : List D) (f : D → PyData) (hti : ∀ R : ItD → Sto → Prop, R ⟨xs, none⟩ st → ti e st R) (hl : xs.length < sizeLine)
    (hf : ∀ d ∈ xs, ∀ K : Kd, K (.d (f d)) st → te (e.set i (some d)) st K) (q : Q (.d (.list (xs.map f))) st) : dLcV ti i dYes te e st Q := by
  refine hti _ ⟨fun j acc st' => st' = st ∧ j ≤ xs.length ∧ acc = (xs.take j).map fun d => D.d (f d), ⟨rfl, Nat.zero_le _, rfl⟩, ?_⟩
  rintro j acc st' ⟨rfl, hj, rfl⟩
  refine ⟨(fun a ds z => nomatch z), fun hd => ?_, fun d hd => ?_⟩
  · have e1 : xs.take j = xs := List.take_of_length_le hd
    rw [e1]
    refine ⟨xs.map f, ?_, q⟩
    rw [show (xs.map fun d => D.d (f d)) = (xs.map f).map D.d by rw [List.map_map]; rfl]
    exact pures_map _
  · have hd' : xs[j]? = some d := hd
    have hlt : j < xs.length := (List.getElem?_eq_some_iff.mp hd').1
    refine (show dYes (e.set i (some d)) st' (fun b s2 => if b = true then te (e.set i (some d)) s2 _ else _) from ?_)
    refine hf d (List.mem_of_getElem? hd') _ ⟨?_, rfl, hlt, ?_⟩
    · rw [List.length_map, List.length_take]
      omega
    · rw [List.take_add_one, hd', List.map_append]
      rfl
/-! ### written data -/
def Val (te : TEd) (e : Ed) : Prop := ∃ x, ∀ st Q, Q (.d x) st → te e st Q
def Vls (t : TAd) (e : Ed) (n : Nat) : Prop := ∃ xs : List PyData, xs.length = n ∧ ∀ st Q, Q (xs.map D.d) st → t e st Q
theorem val_c {x : PyData} {e : Ed} : Val (dC x) e := ⟨x, fun _ _ q => q⟩
theorem val_dict {ps : List (PyData × PyData)} {e : Ed} : Val (dDict ps) e := ⟨.dict ps, fun _ _ q => q⟩
theorem val_var {i : Nat} {x : PyData} {e : Ed} (h : e[i]? = some (some (.d x))) : Val (dVar i) e := ⟨x, fun _ _ q => ⟨_, h, q⟩⟩
theorem val_neg {i : Int} {e : Ed} : Val (dNeg (dC (.int i))) e := ⟨.int (-i), fun _ _ q => q⟩
theorem val_pow {i j : Int} {e : Ed} (h : CPow i j) : Val (dBin rPowD (dC (.int i)) (dC (.int j))) e := ⟨.int (i ^ j.toNat), fun _ _ q => ⟨h, q⟩⟩
theorem vls_nil {e : Ed} : Vls dNil e 0 := ⟨[], rfl, fun _ _ q => q⟩
theorem vls_cons {te : TEd} {t : TAd} {e : Ed} {n : Nat} (h : Val te e) (r : Vls t e n) : Vls (dCons te t) e (n + 1) := by
  obtain ⟨x, hx⟩ := h
  obtain ⟨xs, hl, hr⟩ := r
  exact ⟨x :: xs, by rw [List.length_cons, hl], fun st Q q => hx _ _ (hr _ _ q)⟩
theorem val_tup {t : TAd} {e : Ed} {n : Nat} (r : Vls t e n) (hn : n ≤ 1000) : Val (dTup t) e := by
  obtain ⟨xs, hl, hr⟩ := r
  refine ⟨.tuple xs, fun st Q q => hr _ _ ?_⟩
  show match pures (xs.map D.d) with
    | some ys => (xs.map D.d).length ≤ sizeLine ∧ Q (.d (.tuple ys)) st
    | none => False
  rw [pures_map]
  exact ⟨by rw [List.length_map, hl]; exact Nat.le_trans hn (by decide), q⟩
theorem val_lst {t : TAd} {e : Ed} {n : Nat} (r : Vls t e n) (hn : n ≤ 1000) : Val (dLst t) e := by
  obtain ⟨xs, hl, hr⟩ := r
  exact ⟨.list xs, fun st Q q => hr _ _ ⟨by rw [List.length_map, hl]; exact Nat.le_trans hn (by decide), .inl ⟨xs, pures_map xs, q⟩⟩⟩
theorem val_lstV {t : TAd} {e : Ed} {n : Nat} (r : Vls t e n) (hn : n ≤ 1000) : Val (dLstV t) e := by
  obtain ⟨xs, hl, hr⟩ := r
  refine ⟨.list xs, fun st Q q => hr _ _ ?_⟩
  show match pures (xs.map D.d) with
    | some ys => (xs.map D.d).length ≤ sizeLine ∧ Q (.d (.list ys)) st
    | none => False
  rw [pures_map]
  exact ⟨by rw [List.length_map, hl]; exact Nat.le_trans hn (by decide), q⟩
theorem lstV_then {t : TAd} {e : Ed} {st : Sto} {Q : Kd} {n : Nat} (r : Vls t e n) (hn : n ≤ 1000) (h : ∀ xs : List PyData, xs.length = n → Q (.d (.list xs)) st) : dLstV t e st Q := by
  obtain ⟨xs, hl, hr⟩ := r
  refine hr _ _ ?_
  show match pures (xs.map D.d) with
    | some ys => (xs.map D.d).length ≤ sizeLine ∧ Q (.d (.list ys)) st
    | none => False
  rw [pures_map]
  exact ⟨by rw [List.length_map, hl]; exact Nat.le_trans hn (by decide), h xs hl⟩
theorem lst_then {t : TAd} {e : Ed} {st : Sto} {Q : Kd} {n : Nat} (r : Vls t e n) (hn : n ≤ 1000) (h : ∀ xs : List PyData, xs.length = n → Q (.d (.list xs)) st) : dLst t e st Q := by
  obtain ⟨xs, hl, hr⟩ := r
  exact hr _ _ ⟨by rw [List.length_map, hl]; exact Nat.le_trans hn (by decide), .inl ⟨xs, pures_map xs, h xs hl⟩⟩
end DL
local macro_rules | `(tactic| walk_at "val") => `(tactic| repeat' (first | exact DL.vls_nil | apply DL.vls_cons | exact DL.val_c | exact DL.val_dict | exact DL.val_neg | exact DL.val_var rfl | apply DL.val_tup | apply DL.val_lst | apply DL.val_lstV | exact DL.val_pow ⟨by decide, by decide, by decide⟩ | decide))
local macro_rules | `(tactic| walk_at "st") => `(tactic| simp only [DL.startD, List.map_cons, List.map_nil, List.length_cons, List.length_nil, Nat.reduceAdd, Nat.reduceSub, List.replicate_succ, List.replicate_zero, List.cons_append, List.nil_append, List.append_nil, Nat.sub_self, Nat.zero_add])
local macro_rules | `(tactic| walk_at "go") => `(tactic| simp only [↓DL.dSeq, ↓DL.dNext, ↓DL.dAsg, ↓DL.dRet, ↓DL.dRetN, ↓DL.dIfS, ↓DL.dDrop, ↓DL.dBin, ↓DL.dCons, ↓DL.dNil, ↓DL.dTup, ↓DL.dC, ↓DL.dNeg, ↓DL.dAnd, ↓DL.dOr, ↓DL.dNot, ↓DL.dIf, ↓DL.dTst, ↓DL.asB, ↓DL.dChain, ↓DL.dAndT, ↓DL.dOrT, ↓DL.dNotT, ↓DL.dCall, ↓DL.dFn0, ↓DL.dFnK, ↓DL.dIs, ↓DL.dSl, ↓DL.dNoP, ↓DL.dPart, ↓DL.dRev, ↓DL.dLst, ↓DL.dLstV, ↓DL.cListV, ↓DL.dDict, ↓DL.dPar, ↓DL.dPar3, ↓DL.hTup, ↓DL.hCons, ↓DL.nil_go, ↓DL.hName, ↓DL.hSub, ↓DL.rI2, ↓DL.rSubD, ↓DL.rMulD, ↓DL.rDivD, ↓DL.rModD, ↓DL.rPowD, ↓DL.rLtD, ↓DL.rLeD, ↓DL.rGtD, ↓DL.rGeD, ↓DL.rAddD, ↓DL.ixt_0, ↓DL.ixt_1, ↓DL.ixt_2, ↓DL.ixt_3, ↓DL.ixt_4, ↓DL.ixl_0, ↓DL.ixl_1, ↓DL.ixl_2, ↓DL.ixl_3, ↓DL.ixl_4, ↓DL.rEqV, ↓DL.rNeV, ↓DL.rSlD, ↓DL.cLen, ↓DL.cAbs, ↓DL.cInt, ↓DL.cStrI, ↓DL.cDivmod, ↓DL.cMin, ↓DL.cMax, ↓DL.cGcd, ↓DL.cLcm, ↓DL.cAll, ↓DL.cRepr, ↓DL.cList, ↓DL.cTuple, ↓DL.rC1, ↓DL.rC2, ↓DL.dNever, ↓DL.dIter, ↓DL.dRng1, ↓DL.dRng2, ↓DL.dYes,
  ↓DL.frz_d, ↓DL.var_zero, ↓DL.var_succ, ↓DL.var_set, ↓DL.var_ne, DL.own_some, DL.no_own2, DL.eqv_int, DL.sh_int, DL.sh_bool, DL.kit_int, DL.kit_bool, DL.kit_tuple, DL.kit_str, DL.is_int, DL.is_bool, DL.is_tuple, DL.is_str, DL.pures_nil, DL.pures_cons, Option.map_some, List.length_cons, List.length_nil, List.length_set, List.map_cons, List.map_nil, DL.pick, List.filterMap_cons, List.filterMap_nil,
  true_and, and_true, ite_true, ite_false, if_true, if_false, reduceIte, reduceCtorEq, ne_eq, not_false_eq_true, Nat.reduceAdd, Nat.reduceLT, Nat.reduceEqDiff, decide_eq_true_eq, Bool.not_true, Bool.not_false, Bool.false_eq_true, eq_self])
namespace DL
open PySem PySem.Spec PyProof.Rows L2
variable [Tabs]
/-! ### x in xs, x not in xs -/
def flatP : PyData → Bool
  | .none => true
  | .bool _ => true
  | .int _ => true
  | .str _ => true
  | _ => false
theorem bne_ite (neg b : Bool) : (if neg = true then !b else b) = (neg != b) := by cases neg <;> cases b <;> rfl
section
variable {K : PySem.W.Frag} {st : Sto} {H : Hp}
theorem flat_v {v : V} {x : PyData} (r : Dv K st H v x) (f : flatP x = true) : flatV v = true := by
  cases r <;> first | rfl | exact absurd f Bool.false_ne_true
theorem flat_vs : ∀ {vs : List V} {xs : List PyData}, Dvs K st H vs xs → xs.all flatP = true → vs.all flatV = true
  | _, _, .nil, _ => rfl
  | _, _, .cons h t, f => by
    rw [List.all_cons, Bool.and_eq_true] at f ⊢
    exact ⟨flat_v h f.1, flat_vs t f.2⟩
theorem flat_eq {v w : V} {x y : PyData} (r : Dv K st H v x) (q : Dv K st H w y) (f : flatP x = true) (g : flatP y = true) : eqV v w = PyData.eqv x y := by
  cases r <;> cases q <;> first | (simp only [eqV, PyData.eqv]; done) | exact absurd f Bool.false_ne_true | exact absurd g Bool.false_ne_true | rfl
theorem flat_in {v : V} {x : PyData} (r : Dv K st H v x) (f : flatP x = true) : ∀ {vs : List V} {xs : List PyData}, Dvs K st H vs xs → xs.all flatP = true → inV v vs = xs.any fun z => PyData.eqv z x
  | _, _, .nil, _ => rfl
  | _, _, .cons h t, g => by
    rw [List.all_cons, Bool.and_eq_true] at g
    show (eqV _ v || inV v _) = (PyData.eqv _ x || _)
    rw [flat_eq h r g.1 f, flat_in r f t g.2]
end
def rInV (neg : Bool) : R2d := fun x y st Q => match x with
  | .d a => match y with
    | .d (.tuple xs) => flatP a = true ∧ xs.all flatP = true ∧ Q (.d (.bool (neg != xs.any fun z => PyData.eqv z a))) st
    | y => ∃ xs : List PyData, lstOf y st = some (xs.map D.d) ∧ ((flatP a = true ∧ xs.all flatP = true) ∨ (SeqAt.shaped a = true ∧ SeqAt.shaped (.list xs) = true)) ∧ Q (.d (.bool (neg != xs.any fun z => PyData.eqv z a))) st
  | _ => False
theorem dpAll_of {K : PySem.W.Frag} {st : Sto} {H : Hp} {vs : List V} {xs : List PyData} (r : Dvs K st H vs xs) (h : SeqAt.shaped (.list xs) = true) : DpAll K H vs xs := Dvs.dp r (by simpa [PyData.hasDict] using noDict h)
section
variable {X : Cx}
theorem o_in (hu : X.A.units + 65 < cLine) : OpR X (compareOp .In) (upR X.K (rInV false)) := fun pins s σ H x y v u Q I rx ry ⟨dx, dy, st, hid, Qd, hx, hy, S, w, k⟩ => by
  cases hx with
  | d hx =>
    rename_i a
    dsimp only [rInV] at w
    split at w
    · obtain ⟨p, vs, rfl, h1, r1⟩ := tup_at hy
      refine op_in_seq pins s σ H _ _ v u Q I rx ry ⟨p, vs, rfl, .inr h1, flat_v hx w.1, flat_vs r1 w.2.1, ?_⟩
      rw [bne_ite, flat_in hx w.1 r1 w.2.1]
      exact k.now S (.d (.bl _)) w.2.2
    · obtain ⟨xs, e, c, q⟩ := w
      obtain ⟨p, vs, rfl, h1, r1⟩ := lstOf_at hy S e
      have r1 := Dvs.of r1
      rcases c with c | c
      · refine op_in_seq pins s σ H _ _ v u Q I rx ry ⟨p, vs, rfl, .inl h1, flat_v hx c.1, flat_vs r1 c.2, ?_⟩
        rw [bne_ite, flat_in hx c.1 r1 c.2]
        exact k.now S (.d (.bl _)) q
      · refine op_inD hu pins s σ H _ _ v u Q I rx ry ⟨a, xs, hx.dp (noDict c.1), .lst h1 (dpAll_of r1 c.2), c.1, c.2, ?_⟩
        rw [Bool.false_bne] at q
        exact k.now S (.d (.bl _)) q
  | _ => exact w.elim
theorem o_notin (hu : X.A.units + 65 < cLine) : OpR X (compareOp .NotIn) (upR X.K (rInV true)) := fun pins s σ H x y v u Q I rx ry ⟨dx, dy, st, hid, Qd, hx, hy, S, w, k⟩ => by
  cases hx with
  | d hx =>
    rename_i a
    dsimp only [rInV] at w
    split at w
    · obtain ⟨p, vs, rfl, h1, r1⟩ := tup_at hy
      refine op_notIn_seq pins s σ H _ _ v u Q I rx ry ⟨p, vs, rfl, .inr h1, flat_v hx w.1, flat_vs r1 w.2.1, ?_⟩
      rw [bne_ite, flat_in hx w.1 r1 w.2.1]
      exact k.now S (.d (.bl _)) w.2.2
    · obtain ⟨xs, e, c, q⟩ := w
      obtain ⟨p, vs, rfl, h1, r1⟩ := lstOf_at hy S e
      have r1 := Dvs.of r1
      rcases c with c | c
      · refine op_notIn_seq pins s σ H _ _ v u Q I rx ry ⟨p, vs, rfl, .inl h1, flat_v hx c.1, flat_vs r1 c.2, ?_⟩
        rw [bne_ite, flat_in hx c.1 r1 c.2]
        exact k.now S (.d (.bl _)) q
      · refine op_notInD hu pins s σ H _ _ v u Q I rx ry ⟨a, xs, hx.dp (noDict c.1), .lst h1 (dpAll_of r1 c.2), c.1, c.2, ?_⟩
        rw [Bool.true_bne] at q
        exact k.now S (.d (.bl _)) q
  | _ => exact w.elim
/-! ### i * j, xs * n -/
def rMulX : R2d := fun x y st Q => match x, y with
  | .d (.int i), .d (.int j) => CMulW i j ∧ Q (.d (.int (i * j))) st
  | .d (.list xs), .d (.int n) => 0 ≤ n ∧ n < 1000 ∧ xs.length * n.toNat ≤ sizeLine ∧ Q (.d (.list (List.replicate n.toNat xs).flatten)) st
  | _, _ => False
theorem dvs_rep {K : PySem.W.Frag} {st : Sto} {H : Hp} {vs : List V} {xs : List PyData} (r : Dvs K st H vs xs) : ∀ n : Nat, Dvs K st H (List.replicate n vs).flatten (List.replicate n xs).flatten
  | 0 => .nil
  | n + 1 => by
    rw [List.replicate_succ, List.replicate_succ, List.flatten_cons, List.flatten_cons]
    exact r.append (dvs_rep r n)
theorem o_mulX : OpR X (binaryOp .Mult) (upR X.K rMulX) := fun pins s σ H x y v u Q I rx ry ⟨dx, dy, st, hid, Qd, hx, hy, S, w, k⟩ => by
  unfold rMulX at w
  split at w
  · rename_i i j
    exact o_mul pins s σ H x y v u Q I rx ry ⟨_, _, st, hid, Qd, hx, hy, S, w, k⟩
  · rename_i xs n
    obtain ⟨h0, h1, h2, q⟩ := w
    obtain ⟨a, vs, rfl, h3, r1⟩ := wlOf_at hx S rfl
    have r1 := Dvs.of r1
    cases int_at hy
    refine op_rep pins s σ H _ _ v u Q I rx ry ⟨a, n, vs, rfl, rfl, h3, by omega, by omega, by rw [r1.length]; exact h2, fun p hp => ?_⟩
    exact k.new S hp (.d (.lst upd_same (S.sr.free0 hp) ((dvs_rep r1 _).mono (fr_new hp) S.sr))) q
  · exact w.elim
end
/-! ### enumerate(xs) -/
/-- the tuple at a as it stands at each turn, each item in a new pair -/
def IteT (K : PySem.W.Frag) (a : Addr) : It :=
  ⟨fun i H => ∃ (xs : List V) (x : V), SqT K H a xs ∧ xs[i]? = some x, fun i H v H' => ∃ T x, v = .ref T ∧ H T = none ∧ H' = upd H T (.tup [.int (i : Nat), x]) ∧ ∀ xs, SqT K H a xs → xs[i]? = some x, fun i H => ∃ xs : List V, SqT K H a xs ∧ xs.length ≤ i⟩
section
variable {prog : Program} {w : World} {A : Around} {E : Value → Shared → Prop} {s : Shared}
theorem meets_enumerate_new1 {v : Value} {o : Obj} {H : Heap → Prop} (B : Begins v o H) :
    Meets (Builtin.«enumerate.__new__» ⟨[.type "enumerate", v], []⟩) (fun _ R s => H s.heap ∧
      R (.ok (.ret (.ref (s.heap.push o).objs.size))) { s with heap := (s.heap.push o).push { cls := .type "enumerate", data := .fields #[.none, .bool false, .ref s.heap.objs.size, rawInt 0, .none, .none] } }) :=
  .of_wp fun prog w A R s h => by
    obtain ⟨hp, g, d, tk, os⟩ := s; obtain ⟨h1, h⟩ := h
    have hsub := sub_enumerate
    have q1 : ∀ {A' : Around} {E : Value → Shared → Prop} {Q : Value → Shared → Prop}, Q (.ref hp.objs.size) ⟨hp.push o, g, d, tk, os⟩ → wpAny (model prog w) A' (pyIter v) Q E ⟨hp, g, d, tk, os⟩ :=
      fun q => B.iter prog w _ _ ⟨hp, g, d, tk, os⟩ _ h1 q
    wp_walk using q1
    refine wpAny_stack_any fun st => wpAny_pure ?_
    split
    · rename_i c _ _ _ _ _
      cases (c == Value.type "enumerate")
      · wp_walk using q1
        exact ⟨_, rfl, h⟩
      · wp_walk using q1
        exact ⟨_, rfl, h⟩
    · wp_walk using q1
      exact ⟨_, rfl, h⟩
theorem call_enumerate_1B {v : Value} {o : Obj} {H : Heap → Prop} {Q : Value → Shared → Prop} (B : Begins v o H) (h1 : H s.heap)
    (h : ∀ h', IsEnum h' (s.heap.objs.size + 1) s.heap.objs.size 0 .none → h'.get? s.heap.objs.size = some o → h'.objs.size = s.heap.objs.size + 2 →
      (∀ b o, s.heap.get? b = some o → h'.get? b = some o) → Q (.ref (s.heap.objs.size + 1)) { s with heap := h' }) :
    wpAny (model prog w) A (call (.type "enumerate") [v]) Q E s := by
  refine callType_new F.called_enumerate (by decide) (F.typeCall_enumerate_1 _) (F.newCall_enumerate_1 _) (fun obj => F.args_object_init_2 obj _) F.entry_enumerate_new
    (meets_enumerate_new1 B) ⟨h1, ?_⟩
  have hz : (s.heap.push o).objs.size = s.heap.objs.size + 1 := Heap.size_push ..
  show _ ∧ _
  rw [hz]
  have he : IsEnum ((s.heap.push o).push { cls := .type "enumerate", data := .fields #[.none, .bool false, .ref s.heap.objs.size, rawInt 0, .none, .none] }) (s.heap.objs.size + 1) s.heap.objs.size 0 .none := by
    have := Heap.get?_push_size (s.heap.push o) (o := { cls := .type "enumerate", data := .fields #[.none, .bool false, .ref s.heap.objs.size, rawInt 0, .none, .none] }) rfl
    rw [hz] at this; exact this
  refine ⟨⟨_, he, rfl⟩, h _ he (Heap.get?_push_of_some _ (Heap.get?_push_size _ B.free)) (by rw [Heap.size_push, hz]) fun b o x => Heap.get?_push_of_some _ (Heap.get?_push_of_some _ x)⟩
end
theorem turn_enumT {P : Program} {w : World} {K : PySem.W.Frag} {elts : List Expr} {kk : Nat} {tpos : Pos} (a e it : Addr) :
    Turn P w K (.Tuple elts kk tpos) (IteT K a) [e, it] e (fun i h => (∃ old, IsEnum h e it ((i : Nat) : Int) old) ∧ h.IsTupleIter it a i ∧ e ≠ it ∧ a ≠ it ∧ a ≠ e) where
  mem := by simp
  obj := fun i h st b hb => by
    obtain ⟨⟨old, he⟩, ⟨o, ho, hc, hd⟩, _⟩ := st
    have e' : b = e ∨ b = it := by simpa using hb
    rcases e' with z | z
    · rw [z]; exact ⟨_, he, fun v q => nomatch q⟩
    · rw [z]; exact ⟨o, ho, fun v q => by rw [hd] at q; cases q⟩
  keep := fun i h h' st k => let ⟨⟨old, he⟩, hi, hne⟩ := st; ⟨⟨old, k e (by simp) _ he⟩, hi.at fun o q => k it (by simp) o q, hne⟩
  item := by
    intro X hP hw hK hc i pins s σ H E I hf st hg
    subst hP hw hK
    obtain ⟨⟨old, he⟩, hit, hne, hai, hae⟩ := st
    obtain ⟨xs, x, hq, hx⟩ := hg
    obtain ⟨its, rv, p, hz⟩ := I.tuple hq
    obtain ⟨u, hu, ru⟩ := rv.get hx
    have hel : e < s.heap.objs.size := Heap.lt_size he
    have hil : it < s.heap.objs.size := by obtain ⟨_, q, _⟩ := hit; exact Heap.lt_size q
    have p : s.heap.IsTuple a its.toArray := p
    have D := Draws.tuple (prog := X.prog) (w := X.w) (A := X.A.in1) (I.ok.hd hc) it a hai its.toArray
    have hlt : i < its.toArray.size := by
      have := (List.getElem?_eq_some_iff.mp hu).1
      rw [List.size_toArray]
      exact this
    refine wpAny_pyNext_enum_itemC D he ⟨hit, p⟩ hlt hne (by simp [hne, Ne.symm hae]) fun x' h' tk hx' ho hst' hT hsz hk => ?_
    have ex : x' = u := by
      have h2 : its.toArray[i]? = some u := by simpa using hu
      rw [hx'] at h2
      exact Option.some.inj h2
    subst ex
    refine ⟨_, rfl, wpAny_letOwnedTupleGo_enum (s := { s with heap := h', toks := tk + 1 }) ho fun h'' he' sb => ?_⟩
    have hT2 : h''.get? s.heap.objs.size = some { cls := .type "tuple", data := .seq #[.int i tk, x'] } := (sb.2 _ (Nat.ne_of_gt hel)).trans hT
    have new : ObjOk X.prog X.w (upd H s.heap.objs.size (.tup [.int (i : Nat), x])) h'' s.heap.objs.size (.tup [.int (i : Nat), x]) :=
      ⟨by show 2 ≤ sizeLine; decide, [.int i tk, x'], .cons ⟨_, rfl⟩ (.cons ru .nil), ⟨_, hT2, rfl, _, rfl⟩⟩
    have I1 : Inv X pins σ (upd H s.heap.objs.size (.tup [.int (i : Nat), x])) { s with heap := h'', toks := tk + 1 } :=
      I.turnedNew (ch := [e, it]) (fun b ob hb q => (sb.2 b (fun z => hb (by simp [z]))).trans (hk b ob (fun z => hb (by simp [z])) (fun z => hb (by simp [z])) q)) hf (Nat.le_refl _) new
    refine ⟨.ref s.heap.objs.size, _, I1, rfl, ⟨_, x, rfl, I.hok.fresh (Nat.le_refl _), rfl, fun ys hy => by rw [I.tuple_inj hy hq]; exact hx⟩, ⟨⟨x', ?_⟩, hst'.1.at fun o q => (sb.2 it (Ne.symm hne)).trans q, hne, hai, hae⟩, fun b hb => ?_⟩
    · have e1 : ((i + 1 : Nat) : Int) = (i : Int) + 1 := by omega
      rw [e1]; exact he'
    · have hb' : b < s.heap.objs.size := by
        have e' : b = e ∨ b = it := by simpa using hb
        rcases e' with z | z
        · rw [z]; exact hel
        · rw [z]; exact hil
      rw [upd_ne (Nat.ne_of_lt hb')]
      exact (hf b hb).1
  done := by
    intro X hP hw hK hc i pins s σ H E I hf st hg
    subst hP hw hK
    obtain ⟨⟨old, he⟩, hit, hne, hai, hae⟩ := st
    obtain ⟨xs, hq, hx⟩ := hg
    obtain ⟨its, rv, p, hz⟩ := I.tuple hq
    obtain ⟨f0, f1, f2, f3, f4, f5⟩ := hf it (by simp)
    have hl := rv.length
    have p : s.heap.IsTuple a its.toArray := p
    have hT : s.TypeIs (.ref e) "enumerate" := ⟨_, he, rfl⟩
    unfold pyNext
    refine wpAny_bind (wpAny_attempt (wpAny_callSpecial?_slot (name := Str.ofString "__next__") hT F.slot_enumerate_next
      (wpAny_call_entry F.slot_enumerate_next hT F.entry_enumerate_next ?_ (F.args_enumerate_next_1 _))))
    show wpAny _ _ (field (.ref e) 2 >>= _) _ _ _
    refine wpAny_bind (wpAny_field he rfl (x := .ref it) rfl ?_)
    refine wpAny_bind (wpAny_nextOf_tuple_end (I.ok.hd hc) hit p (by simp; omega) fun h' x eb hx' => ?_)
    obtain ⟨o, ho, hc⟩ := hx'
    refine wpAny_bind (wpAny_isInstance (T := "StopIteration") (b := true) ⟨o, ho, hc⟩ isSubtype_stop ?_)
    exact wpAny_pure ⟨rfl, I.turned (t' := s.toks) (fun b o hb q => eb b o hb q) f0 f1 f3 f4 f5⟩
  self := fun A i s Q E st h => let ⟨⟨_, he⟩, _⟩ := st; wpAny_pyIter_enum he h
/-- enumerate(xs), of a list or a tuple -/
def enumD (ds : List D) : Option (List D) := (pures ds).map fun xs => (List.range xs.length).zipWith (fun (i : Nat) x => D.d (.tuple [.int i, x])) xs
def dEnum (t : TAd) : TId := fun e st R => t e st fun ds st1 => match ds with
  | [.d (.tuple xs)] => R ⟨(List.range xs.length).zipWith (fun (i : Nat) x => D.d (.tuple [.int i, x])) xs, none⟩ st1
  | [.d (.list xs)] => R ⟨(List.range xs.length).zipWith (fun (i : Nat) x => D.d (.tuple [.int i, x])) xs, none⟩ st1
  | [.own a] => ∃ xs : List PyData, st1 a = some (xs.map D.d) ∧ R ⟨(List.range xs.length).zipWith (fun (i : Nat) x => D.d (.tuple [.int i, x])) xs, some (a, xs.map D.d)⟩ st1
  | _ => False
theorem enum_get {xs : List PyData} {i : Nat} {d : D} (h : ((List.range xs.length).zipWith (fun (i : Nat) x => D.d (.tuple [.int i, x])) xs)[i]? = some d) : ∃ x, xs[i]? = some x ∧ d = .d (.tuple [.int i, x]) := by
  rw [List.getElem?_zipWith] at h
  cases e : xs[i]? with
  | none =>
    rw [e] at h
    cases q : (List.range xs.length)[i]? <;> (rw [q] at h; cases h)
  | some x =>
    have hi : i < xs.length := (List.getElem?_eq_some_iff.mp e).1
    rw [e, List.getElem?_range hi] at h
    exact ⟨x, rfl, (Option.some.inj h).symm⟩
theorem enum_len {xs : List PyData} : ((List.range xs.length).zipWith (fun (i : Nat) x => D.d (.tuple [.int i, x])) xs).length = xs.length := by
  rw [List.length_zipWith, List.length_range, Nat.min_self]
section
variable {K : PySem.W.Frag} {F0 : Sto} {H0 : Hp} {a : Addr}
theorem pair_new {F : Sto} {H : Hp} (S : SR K F H) {T : Addr} {i : Nat} {v : V} {x : PyData} (hT : H T = none) (r : Dv K F H v x) : Fr F H F (upd H T (.tup [.int (i : Nat), v])) ∧ SR K F (upd H T (.tup [.int (i : Nat), v])) ∧ DvD K F (upd H T (.tup [.int (i : Nat), v])) (.ref T) (.d (.tuple [.int i, x])) :=
  ⟨fr_new hT, sr_new S hT, .d (.tup (.inl (.inl upd_same)) (.cons (.int _) (.cons (r.mono (fr_new hT) S) .nil)))⟩
theorem itok_enT {vs : List V} {xs : List PyData} (h : SqT K H0 a vs) (r : Dvs K F0 H0 vs xs) (S0 : SR K F0 H0) : ItOk K F0 H0 (IteT K a) ⟨(List.range xs.length).zipWith (fun (i : Nat) x => D.d (.tuple [.int i, x])) xs, none⟩ := fun i F H fr S _ => by
  have h' := sqT_mono fr S0 h
  have r' := r.mono fr S0
  refine ⟨fun d e => ?_, fun z => ⟨vs, h', by
    have z' : _ ≤ i := z
    rw [enum_len] at z'
    rw [r'.length]
    exact z'⟩⟩
  obtain ⟨x, ex, rfl⟩ := enum_get e
  obtain ⟨v, e1, r1⟩ := r'.get ex
  refine ⟨⟨vs, v, h', e1⟩, fun y H' ⟨T, w, ey, hT, eh, hy⟩ => ?_⟩
  subst ey eh
  have e2 := hy vs h'
  rw [e1] at e2
  cases e2
  exact pair_new S hT r1
theorem itok_enL {vs : List V} {xs : List PyData} (h : H0 a = some (.lst vs)) (f : F0 a = none) (r : Dvs K F0 H0 vs xs) (S0 : SR K F0 H0) : ItOk K F0 H0 (Ite K a) ⟨(List.range xs.length).zipWith (fun (i : Nat) x => D.d (.tuple [.int i, x])) xs, none⟩ := fun i F H fr S _ => by
  have h' : SqL K H a vs := .inl (.inl (fr a _ h f fun _ z => nomatch z).1)
  have r' := r.mono fr S0
  refine ⟨fun d e => ?_, fun z => ⟨vs, h', by
    have z' : _ ≤ i := z
    rw [enum_len] at z'
    rw [r'.length]
    exact z'⟩⟩
  obtain ⟨x, ex, rfl⟩ := enum_get e
  obtain ⟨v, e1, r1⟩ := r'.get ex
  refine ⟨⟨vs, v, h', e1⟩, fun y H' ⟨T, w, ey, hT, eh, hy⟩ => ?_⟩
  subst ey eh
  have e2 := hy vs h'
  rw [e1] at e2
  cases e2
  exact pair_new S hT r1
theorem itok_enO {xs : List PyData} (l : ∃ xs, H0 a = some (.lst xs)) : ItOk K F0 H0 (Ite K a) ⟨(List.range xs.length).zipWith (fun (i : Nat) x => D.d (.tuple [.int i, x])) xs, some (a, xs.map D.d)⟩ := fun i F H fr S at_ => by
  obtain ⟨vs, h, r⟩ := S.list (at_ a _ rfl) (let ⟨_, e⟩ := l; fr.ls a _ e)
  have h' : SqL K H a vs := .inl (.inl h)
  have r' := Dvs.of r
  refine ⟨fun d e => ?_, fun z => ⟨vs, h', by
    have z' : _ ≤ i := z
    rw [enum_len] at z'
    rw [r'.length]
    exact z'⟩⟩
  obtain ⟨x, ex, rfl⟩ := enum_get e
  obtain ⟨v, e1, r1⟩ := r'.get ex
  refine ⟨⟨vs, v, h', e1⟩, fun y H' ⟨T, w, ey, hT, eh, hy⟩ => ?_⟩
  subst ey eh
  have e2 := hy vs h'
  rw [e1] at e2
  cases e2
  exact pair_new S hT r1
end
theorem pdi_enum {X : Cx} {e : Expr} {ta : TAd} {p pos tpos : Pos} {elts : List Expr} {kk : Nat} (hg : Gl X "enumerate") (hm : X.mg "enumerate" = none) (ha : PDA X [e] ta) (hs : starEach [e] X.env = [(false, eval e X.env)] := by rfl) :
    PDI X (.Tuple elts kk tpos) (.Call (.Name "enumerate" p) [e] [] pos) (dEnum ta) := by
  refine ⟨fun pins s σ H R I ⟨en, st, hid, Rd, re, S, h, k⟩ => ?_⟩
  refine Call_ (ld_blt I hg hm boot_enumerate (PyProof.Rows.callWith_type1 (thn (ha.run pos pins s σ H (fun vs H1 => ∃ a, vs = [.ref a] ∧ ((∃ xs, SqL X.K H1 a xs) ∧ R (Ite X.K a) H1 ∨ (∃ xs, SqT X.K H1 a xs) ∧ R (IteT X.K a) H1)) I ⟨en, st, hid, _, re, S, h, fun vs H1 ds st1 F1 S1 r q => ?_⟩) fun us s1 ⟨vs, H1, I1, r1, a, ex, q1⟩ => ?_) hs rfl))
  · split at q
    · obtain ⟨v, rfl, r1⟩ := DvsD.one r
      obtain ⟨a, vs, rfl, h1, r2⟩ := tup_at r1
      exact ⟨a, rfl, .inr ⟨⟨vs, h1⟩, k _ H1 _ st1 F1 S1 (itok_enT h1 r2 S1.sr) (fun a ds z => nomatch z) q⟩⟩
    · obtain ⟨v, rfl, r1⟩ := DvsD.one r
      cases r1 with
      | d r1 =>
        cases r1 with
        | lst h f r => exact ⟨_, rfl, .inl ⟨⟨_, .inl (.inl h)⟩, k _ H1 _ st1 F1 S1 (itok_enL h f r S1.sr) (fun a ds z => nomatch z) q⟩⟩
    · obtain ⟨v, rfl, r1⟩ := DvsD.one r
      cases r1 with
      | own _ l =>
        obtain ⟨xs, e1, q⟩ := q
        obtain ⟨vs, h1, r2⟩ := S1.at_ e1 l
        exact ⟨_, rfl, .inl ⟨⟨_, .inl (.inl h1)⟩, k _ H1 _ st1 F1 S1 (itok_enO l) (fun b es z => by
          cases z
          exact e1) q⟩⟩
    · exact q.elim
  · subst ex
    cases r1 with
    | cons r rr =>
      cases rr
      cases r
      have kp2 : ∀ {h' : Heap}, (∀ b o, s1.heap.get? b = some o → h'.get? b = some o) → Inv X pins σ H1 { s1 with heap := h' } := fun hk => I1.kept (t' := s1.toks) hk
      have fpo : ∀ b ∈ [s1.heap.objs.size + 1, s1.heap.objs.size], FpOk X pins H1 b := fun b hb => by
        have e' : b = s1.heap.objs.size + 1 ∨ b = s1.heap.objs.size := by simpa using hb
        have hle : s1.heap.objs.size ≤ b := by
          rcases e' with z | z
          · rw [z]; exact Nat.le_add_right _ _
          · rw [z]; exact Nat.le_refl _
        exact I1.fpOk hle (I1.hok.fresh hle)
      rcases q1 with ⟨⟨xs, hq⟩, q⟩ | ⟨⟨xs, hq⟩, q⟩
      · obtain ⟨its, rv, p', hz⟩ := I1.list hq
        refine call_enumerate_list p'.isList fun h' he hit hsz hk => wpAny_pyIter_enum he ?_
        exact ⟨s1.heap.objs.size + 1, [s1.heap.objs.size + 1, s1.heap.objs.size], _, _, H1, rfl, kp2 hk, turn_enum a (s1.heap.objs.size + 1) s1.heap.objs.size, ⟨⟨.none, he⟩, hit, Nat.succ_ne_self _⟩, fpo, q⟩
      · obtain ⟨its, rv, p', hz⟩ := I1.tuple hq
        have p' : s1.heap.IsTuple a its.toArray := p'
        have hal : a < s1.heap.objs.size := by
          obtain ⟨o, ho, _⟩ := p'
          exact Heap.lt_size ho
        refine call_enumerate_1B (begins_tuple a its.toArray) p' fun h' he hit hsz hk => wpAny_pyIter_enum he ?_
        exact ⟨s1.heap.objs.size + 1, [s1.heap.objs.size + 1, s1.heap.objs.size], _, _, H1, rfl, kp2 hk, turn_enumT a (s1.heap.objs.size + 1) s1.heap.objs.size, ⟨⟨.none, he⟩, ⟨_, hit, rfl, rfl⟩, Nat.succ_ne_self _, Nat.ne_of_lt hal, Nat.ne_of_lt (Nat.lt_succ_of_lt hal)⟩, fpo, q⟩
end DL
namespace DL
open PySem PySem.Spec PyProof.Rows L2
variable [Tabs]
/-! ### list comprehensions, targets of any form -/
inductive Pat where
  | nm (i : Nat)
  | tup (ps : List Pat)
mutual
def gP (K : PySem.W.Frag) : Pat → TG
  | .nm i => gName i
  | .tup ps => gTup K ps.length (gPs K ps)
def gPs (K : PySem.W.Frag) : List Pat → TGs
  | [] => gNil
  | p :: ps => gCons (gP K p) (gPs K ps)
end
mutual
def setP : Pat → PyData → Ed → Option Ed
  | .nm i, x, e => some (e.set i (some (.d x)))
  | .tup ps, .tuple xs, e => setPs ps xs e
  | .tup _, _, _ => none
def setPs : List Pat → List PyData → Ed → Option Ed
  | [], [], e => some e
  | p :: ps, x :: xs, e => (setP p x e).bind (setPs ps xs)
  | _, _, _ => none
end
mutual
def slots : Pat → List Nat
  | .nm i => [i]
  | .tup ps => slotsAll ps
def slotsAll : List Pat → List Nat
  | [] => []
  | p :: ps => slots p ++ slotsAll ps
end
structure REo (K : PySem.W.Frag) (st : Sto) (H : Hp) (P : Nat → Prop) (σ : L2.St) (e : Ed) : Prop where
  len : σ.length = e.length
  at_ : ∀ (i : Nat) (d : D), ¬ P i → e[i]? = some (some d) → ∃ v, σ[i]? = some (some v) ∧ DvD K st H v d
theorem wipe_at {σ : L2.St} {j : Nat} : ∀ {vs : List Nat}, j ∉ vs → (wipe σ vs)[j]? = σ[j]?
  | [], _ => rfl
  | v :: vs, h => by
    rw [List.mem_cons, not_or] at h
    unfold wipe
    rw [List.getElem?_set_ne (Ne.symm h.1), wipe_at h.2]
theorem wipe_in {σ : L2.St} {j : Nat} : ∀ {vs : List Nat}, j ∈ vs → j < σ.length → (wipe σ vs)[j]? = some none
  | v :: vs, h, hl => by
    unfold wipe
    by_cases e : v = j
    · subst e
      rw [List.getElem?_set_self (by rw [wipe_length]; exact hl)]
    · rw [List.getElem?_set_ne e]
      rcases List.mem_cons.mp h with h | h
      · exact absurd h.symm e
      · exact wipe_in h hl
theorem wipe_set {σ : L2.St} {i : Nat} {x : Option V} {vs : List Nat} (h : i ∈ vs) : wipe (σ.set i x) vs = wipe σ vs := by
  refine List.ext_getElem? fun j => ?_
  by_cases hj : j ∈ vs
  · by_cases hl : j < σ.length
    · rw [wipe_in hj hl, wipe_in hj (by rw [List.length_set]; exact hl)]
    · rw [List.getElem?_eq_none (by rw [wipe_length, List.length_set]; omega), List.getElem?_eq_none (by rw [wipe_length]; omega)]
  · have ne : i ≠ j := fun z => hj (z ▸ h)
    rw [wipe_at hj, wipe_at hj, List.getElem?_set_ne ne]
theorem RE.off {K : PySem.W.Frag} {st : Sto} {H : Hp} {σ : L2.St} {e : Ed} (r : RE K st H σ e) (vs : List Nat) : REo K st H (· ∈ vs) (wipe σ vs) e :=
  ⟨by rw [wipe_length]; exact r.len, fun i d hi h => by
    rw [wipe_at hi]
    exact r.at_ i d h⟩
theorem REo.on {K : PySem.W.Frag} {st : Sto} {H : Hp} {P : Nat → Prop} {σ : L2.St} {e : Ed} (r : REo K st H P σ e) (h : ∀ i, ¬ P i) : RE K st H σ e := ⟨r.len, fun i d q => r.at_ i d (h i) q⟩
theorem REo.imp {K : PySem.W.Frag} {st : Sto} {H : Hp} {P P' : Nat → Prop} {σ : L2.St} {e : Ed} (r : REo K st H P σ e) (h : ∀ i, P i → P' i) : REo K st H P' σ e := ⟨r.len, fun i d hi q => r.at_ i d (fun z => hi (h i z)) q⟩
theorem REo.set {K : PySem.W.Frag} {st : Sto} {H : Hp} {P : Nat → Prop} {σ : L2.St} {e : Ed} (r : REo K st H P σ e) {i : Nat} {v : V} {d : D} (h : DvD K st H v d) : REo K st H (fun j => P j ∧ j ≠ i) (σ.set i (some v)) (e.set i (some d)) := by
  refine ⟨by rw [List.length_set, List.length_set]; exact r.len, fun j x hp hj => ?_⟩
  by_cases hi : i = j
  · subst hi
    rw [List.getElem?_set] at hj ⊢
    rw [if_pos rfl] at hj ⊢
    rw [r.len]
    split at hj
    · rename_i hl
      rw [if_pos hl]
      cases Option.some.inj (Option.some.inj hj)
      exact ⟨v, rfl, h⟩
    · cases hj
  · rw [List.getElem?_set_ne hi] at hj ⊢
    exact r.at_ j x (fun z => hp ⟨z, fun w => hi w.symm⟩) hj
mutual
theorem gP_go {K : PySem.W.Frag} {st : Sto} {H : Hp} {vs : List Nat} : ∀ (p : Pat) {P : Nat → Prop} {σ : L2.St} {e e' : Ed} {v : V} {x : PyData} {Q : L2.St → Hp → Prop}, REo K st H P σ e → Dv K st H v x → setP p x e = some e' → (∀ i ∈ slots p, i ∈ vs) →
    (∀ σ2, REo K st H (fun j => P j ∧ j ∉ slots p) σ2 e' → wipe σ2 vs = wipe σ vs → Q σ2 H) → gP K p v σ H Q
  | .nm i, P, σ, e, e', v, x, Q, r, h, q, hs, k => by
    unfold setP at q
    cases Option.some.inj q
    unfold gP
    exact k _ ((r.set (.d h)).imp fun j hj => ⟨hj.1, by simpa [slots] using hj.2⟩) (wipe_set (hs i (by simp [slots])))
  | .tup ps, P, σ, e, e', v, x, Q, r, h, q, hs, k => by
    cases h with
    | tup h1 r1 =>
      unfold setP at q
      unfold gP
      refine ⟨_, _, rfl, h1, ?_, gPs_go ps r r1 q (by simpa [slots] using hs) (by simpa [slots] using k)⟩
      rw [r1.length]
      exact setPs_len ps q
    | _ => cases q
theorem setPs_len : ∀ (ps : List Pat) {xs : List PyData} {e e' : Ed}, setPs ps xs e = some e' → xs.length = ps.length
  | [], [], _, _, _ => rfl
  | [], _ :: _, _, _, q => by cases q
  | p :: ps, [], _, _, q => by cases q
  | p :: ps, x :: xs, e, e', q => by
    unfold setPs at q
    obtain ⟨e1, h1, h2⟩ := Option.bind_eq_some_iff.mp q
    rw [List.length_cons, List.length_cons, setPs_len ps h2]
theorem gPs_go {K : PySem.W.Frag} {st : Sto} {H : Hp} {vs : List Nat} : ∀ (ps : List Pat) {P : Nat → Prop} {σ : L2.St} {e e' : Ed} {ws : List V} {xs : List PyData} {Q : L2.St → Hp → Prop}, REo K st H P σ e → Dvs K st H ws xs → setPs ps xs e = some e' → (∀ i ∈ slotsAll ps, i ∈ vs) →
    (∀ σ2, REo K st H (fun j => P j ∧ j ∉ slotsAll ps) σ2 e' → wipe σ2 vs = wipe σ vs → Q σ2 H) → gPs K ps ws σ H Q
  | [], P, σ, e, e', ws, xs, Q, r, h, q, hs, k => by
    cases h with
    | nil =>
      unfold setPs at q
      cases Option.some.inj q
      exact ⟨rfl, k σ (r.imp fun j hj => ⟨hj, by simp [slotsAll]⟩) rfl⟩
    | cons _ _ => cases q
  | p :: ps, P, σ, e, e', ws, xs, Q, r, h, q, hs, k => by
    cases h with
    | nil => cases q
    | cons h t =>
      unfold setPs at q
      obtain ⟨e1, h1, h2⟩ := Option.bind_eq_some_iff.mp q
      unfold gPs
      refine ⟨_, _, rfl, gP_go p r h h1 (fun i hi => hs i (by simp [slotsAll, hi])) fun σ2 r2 w2 => ?_⟩
      exact gPs_go ps r2 t h2 (fun i hi => hs i (by simp [slotsAll, hi])) fun σ3 r3 w3 => k σ3 (r3.imp fun j ⟨⟨h1, h2⟩, h3⟩ => ⟨h1, by simp [slotsAll, h2, h3]⟩) (w3.trans w2)
end
def dLcP (M : List D → Sto → Kd → Prop) (ti : TId) (p : Pat) (tt : TTd) (te : TEd) : TEd := fun e st Q => ti e st fun it st1 => ∃ W : Nat → List D → Sto → Prop, W 0 [] st1 ∧ ∀ j acc st2, W j acc st2 → it.at st2 ∧ (it.xs.length ≤ j → M acc st2 Q) ∧
  ∀ d, it.xs[j]? = some d → ∃ x e', d = .d x ∧ setP p x e = some e' ∧ tt e' st2 fun b st3 => if b = true then te e' st3 fun y st4 => acc.length < sizeLine ∧ W (j + 1) (acc ++ [y]) st4 else W (j + 1) acc st3
theorem pd_lcP {X : Cx} {M : List D → Sto → Kd → Prop} (hM : ∀ ds st Q, M ds st Q → mkL ds st Q) {elt iter tg : Expr} {ifs : List Expr} {scope : Scope} {pos : Pos} {ti : TId} {tt : TTd} {te : TEd} (p : Pat) (own : List (Str × Nat)) (ho : ∀ i, i ∈ own.map (·.2) ↔ i ∈ slots p) (hc : X.calm = true) (hN : X.N.Nodup) (hi : PDI X tg iter ti) (ok : BlkOk X.N X.env.scope scope own)
    (hg : ∀ (s : Shared) (H : Hp) (C : Addr) (cl : List (Str × Addr)) (fp : List Addr), PG (X.blk s H scope (compEnvC scope cl C X.env) fp) tg (gP X.K p))
    (ht : ∀ (s : Shared) (H : Hp) (C : Addr) (cl : List (Str × Addr)) (fp : List Addr), PDTs (X.blk s H scope (compEnvC scope cl C X.env) fp) ifs tt)
    (he : ∀ (s : Shared) (H : Hp) (C : Addr) (cl : List (Str × Addr)) (fp : List Addr), PD (X.blk s H scope (compEnvC scope cl C X.env) fp) elt te) (hs : ∀ x, foldedSetIterable iter X.env x = pure x := by intro _; rfl) :
    PD X (.ListComp elt [⟨tg, iter, ifs, 0⟩] scope pos) (dLcP M ti p tt te) :=
  PE.imp (pe_lc (own := own) (wi := upI X.K ti) (g := gP X.K p) (tt := upT X.K tt) (te := up X.K te) hc hN hi ok hg ht he hs) fun σ H Q ⟨e, st, hid, Qd, re, S, h, k⟩ => by
    refine ⟨e, st, hid, _, re, S, h, fun J H1 it st1 F1 S1 ok1 at1 ⟨W, w0, turn⟩ p' hp => ?_⟩
    have n1 := jn_free (S1.sr.free0 hp)
    refine ⟨fun j m H2 => m = it.xs.length - j ∧ ∃ acc st2, W j acc st2 ∧ Sx X.K (put st2 p' acc) hid H2 ∧ st2 p' = none ∧ Fr (jn (put st1 p' []) hid) (upd H1 p' (.lst [])) (jn (put st2 p' acc) hid) H2, ⟨it.xs.length, by simp, [], st1, w0, S1.own hp .nil, n1.1, Fr.refl _ _⟩, ?_⟩
    rintro j m H2 ⟨rfl, acc, st2, w2, S2, n2, F2⟩
    obtain ⟨at2, done, go⟩ := turn j acc st2 w2
    have Sh := S2.hide n2
    have eqF : jn st2 (put hid p' acc) = jn (put st2 p' acc) hid := jn_swap n2
    have F12 : Fr (jn st1 hid) H1 (jn (put st2 p' acc) hid) H2 := Fr.trans (fx_own hp) F2
    have F02 : Fr (jn st hid) H (jn (put st2 p' acc) hid) H2 := Fr.trans F1 F12
    have atF : it.at (jn (put st2 p' acc) hid) := fun a ds z => by
      have e1 := at2 a ds z
      have ne : a ≠ p' := fun z' => by
        rw [z', n2] at e1
        cases e1
      exact jn_some (by rw [put_ne ne]; exact e1)
    have It := ok1 j _ H2 F12 S2.sr atF
    by_cases hj : it.xs.length ≤ j
    · refine .inl ⟨It.2 hj, ?_⟩
      obtain ⟨vs, hv, rv⟩ := S2.at_ put_same (F2.ls _ [] upd_same)
      rcases hM _ _ _ (done hj) with ⟨xs, ep, q⟩ | q
      · have ea := pures_eq ep
        subst ea
        obtain ⟨Sc, Fc, fc⟩ := S2.frz put_same
        have ec : cut (put st2 p' (xs.map D.d)) p' = st2 := by
          funext b
          by_cases eb : b = p'
          · rw [eb, cut_same, n2]
          · rw [cut_ne eb, put_ne eb]
        rw [ec] at Sc Fc fc
        exact k _ H2 _ st2 (Fr.trans F02 Fc) Sc (.d (.lst hv fc ((Dvs.of rv).mono Fc S2.sr))) q
      · exact k _ H2 _ _ F02 S2 (.own _ ⟨_, hv⟩) (q _ n2)
    · have hlt : j < it.xs.length := Nat.lt_of_not_le hj
      have ed : it.xs[j]? = some it.xs[j] := List.getElem?_eq_getElem hlt
      obtain ⟨g1, g2⟩ := It.1 _ ed
      refine .inr ⟨g1, fun H' => ∃ acc' st', W (j + 1) acc' st' ∧ Sx X.K (put st' p' acc') hid H' ∧ st' p' = none ∧ Fr (jn (put st1 p' []) hid) (upd H1 p' (.lst [])) (jn (put st' p' acc') hid) H', fun H' ⟨acc', st', h1, h2, h3, h4⟩ => ⟨it.xs.length - (j + 1), by omega, rfl, acc', st', h1, h2, h3, h4⟩, fun x H3 hy => ?_⟩
      obtain ⟨F23, S3r, rx⟩ := g2 x H3 hy
      obtain ⟨xd, e', exd, he', go2⟩ := go _ ed
      rw [exd] at rx
      cases rx with
      | d rx =>
      have S3 : Sx X.K (put st2 p' acc) hid H3 := S2.go F23 S3r
      have S3h := S3.hide n2
      have F03 := Fr.trans F02 F23
      have reo : REo X.K (jn (put st2 p' acc) hid) H3 (· ∈ own.map (·.2)) (wipe σ (own.map (·.2))) e := (re.mono F03 S.sr).off _
      refine gP_go p reo rx he' (fun i hi => (ho i).mpr hi) fun σ2 r2 w2 => ?_
      have reX : RE X.K (jn st2 (put hid p' acc)) H3 σ2 e' := by
        rw [eqF]
        exact r2.on fun i hi => hi.2 ((ho i).mp hi.1)
      have ww : wipe (wipe σ (own.map (·.2))) (own.map (·.2)) = wipe σ (own.map (·.2)) := by
        refine List.ext_getElem? fun i => ?_
        by_cases hi : i ∈ own.map (·.2)
        · by_cases hl : i < σ.length
          · rw [wipe_in hi (by rw [wipe_length]; exact hl), wipe_in hi hl]
          · rw [List.getElem?_eq_none (by rw [wipe_length, wipe_length]; omega), List.getElem?_eq_none (by rw [wipe_length]; omega)]
        · rw [wipe_at hi]
      refine ⟨w2.trans ww, ?_⟩
      refine ⟨_, st2, put hid p' acc, _, reX, S3h, go2, fun b H4 st4 F4 S4 q4 => ?_⟩
      have hn : hid p' = none := n1.2
      have F3X : Fr (jn (put st1 p' []) hid) (upd H1 p' (.lst [])) (jn st2 (put hid p' acc)) H3 := by
        rw [eqF]
        exact Fr.trans F2 F23
      cases b with
      | false =>
        rw [if_neg Bool.false_ne_true] at q4
        refine iteF ?_
        obtain ⟨S4', n4⟩ := S4.shown hn
        refine ⟨acc, st4, q4, S4', n4, ?_⟩
        rw [← jn_swap n4]
        exact Fr.trans F3X F4
      | true =>
        rw [if_pos rfl] at q4
        refine iteT ?_
        refine ⟨_, st4, put hid p' acc, _, reX.mono F4 S3h.sr, S4, q4, fun v H5 d st5 F5 S5 r5 ⟨hz, w5⟩ => ?_⟩
        obtain ⟨S5', n5⟩ := S5.shown hn
        obtain ⟨vs, hv, rv⟩ := S5'.at_ put_same ((Fr.trans F3X (Fr.trans F4 F5)).ls _ [] upd_same)
        rw [jn_swap n5] at r5
        refine ⟨vs, hv, by rw [Paired.length rv]; exact hz, acc ++ [d], st5, w5, ?_, n5, ?_⟩
        · have := S5'.store (es := acc ++ [d]) put_same (DvsD.snoc rv r5)
          have ee : put (put st5 p' acc) p' (acc ++ [d]) = put st5 p' (acc ++ [d]) := by
            funext b
            by_cases eb : b = p'
            · rw [eb, put_same, put_same]
            · rw [put_ne eb, put_ne eb, put_ne eb]
          rw [ee] at this
          exact this
        · have Fa : Fr (jn (put st1 p' []) hid) (upd H1 p' (.lst [])) (jn (put st5 p' acc) hid) H5 := by
            rw [← jn_swap n5]
            exact Fr.trans F3X (Fr.trans F4 F5)
          exact Fr.late Fa (by rw [jn_some put_same]; exact fun z => nomatch z)
end DL
namespace DL
open PySem PySem.Spec PyProof.Rows L2
variable [Tabs]
/-! ### sorted(xs) -/
def sortD (xs : List PyData) : List PyData := xs.mergeSort (PySem.W.dataLe false _root_.id)
mutual
theorem alike_noDict : ∀ (x : PyData), PySem.W.alike x x = true → x.hasDict = false
  | .none, _ => rfl
  | .bool _, _ => rfl
  | .int _, _ => rfl
  | .str _, _ => rfl
  | .list xs, h => by
    unfold PyData.hasDict
    exact alikeAll_noDict xs (by simpa [PySem.W.alike] using h)
  | .tuple xs, h => by
    unfold PyData.hasDict
    exact alikeAll_noDict xs (by simpa [PySem.W.alike] using h)
  | .dict _, h => by simp [PySem.W.alike] at h
theorem alikeAll_noDict : ∀ (xs : List PyData), PySem.W.alikeAll xs xs = true → PyData.hasDictAll xs = false
  | [], _ => by simp [PyData.hasDictAll]
  | x :: xs, h => by
    rw [PySem.W.alikeAll, Bool.and_eq_true] at h
    rw [PyData.hasDictAll, alike_noDict x h.1, alikeAll_noDict xs h.2]
    rfl
end
def cSorted : RCd := fun ds st Q => match ds with
  | [x] => ∃ xs : List PyData, lstOf x st = some (xs.map D.d) ∧ PySem.W.AllAlike xs ∧ PySem.W.Sortable xs ∧ (∀ d ∈ xs, d.depth ≤ 64) ∧ mkL ((sortD xs).map D.d) st Q
  | _ => False
section
variable {X : Cx}
theorem each_of {K : PySem.W.Frag} {st : Sto} {H : Hp} : ∀ {vs : List V} {us : List Value} {xs : List PyData}, Vals vs us → Dvs K st H vs xs → PySem.W.EachIs (fun u x => ∃ v, RelV v u ∧ Dv K st H v x) us xs
  | _, _, _, .nil, .nil => .nil
  | _, _, _, .cons r t, .cons h t' => .cons ⟨_, r, h⟩ (each_of t t')
theorem of_each {K : PySem.W.Frag} {st : Sto} {H : Hp} : ∀ {us : List Value} {xs : List PyData}, PySem.W.EachIs (fun u x => ∃ v, RelV v u ∧ Dv K st H v x) us xs → ∃ vs, Vals vs us ∧ Dvs K st H vs xs
  | _, _, .nil => ⟨[], .nil, .nil⟩
  | _, _, .cons ⟨v, r, h⟩ t => by
    obtain ⟨vs, h1, h2⟩ := of_each t
    exact ⟨v :: vs, .cons r h1, .cons h h2⟩
theorem each_reads {pins : List (Addr × Obj)} {σ : L2.St} {st : Sto} {H : Hp} {s : Shared} (I : Inv X pins σ H s) : ∀ {vs : List V} {us : List Value} {xs : List PyData}, Vals vs us → Dvs X.K st H vs xs → (∀ x ∈ xs, x.hasDict = false) → PySem.W.EachIs (fun v b => ∃ as, Reads s.heap v (_root_.id b) as) us xs
  | _, _, _, .nil, .nil, _ => .nil
  | _, _, _, .cons r t, .cons h t', n => .cons (Dp.reads I _ _ _ (h.dp (n _ List.mem_cons_self)) r) (each_reads I t t' fun x hx => n x (List.mem_cons_of_mem _ hx))
theorem c_sorted (hu : X.A.units + 66 < cLine) : CallR X (.builtin "sorted") (upC X.K cSorted) := fun pins s σ H vs us Q I rx ⟨ds, st, hid, Qd, r, S, w, k⟩ => by
  unfold cSorted at w
  split at w
  · obtain ⟨v, rfl, r1⟩ := r.one
    obtain ⟨xs, e, hal, hk, hd, q⟩ := w
    obtain ⟨a, ws, rfl, h1, r2⟩ := lstOf_at r1 S e
    have r2 := Dvs.of r2
    obtain ⟨u, rfl, ru⟩ := vals1 rx
    cases ru
    obtain ⟨its, rv, hl, hz⟩ := I.list h1
    have nd : ∀ x ∈ xs, x.hasDict = false := fun x hx => alike_noDict x (hal x hx x hx)
    have ln : xs.length ≤ sizeLine := by
      rw [← r2.length]
      have := rv.length
      omega
    have hal' : PySem.W.AllAlike (xs.map _root_.id) := by rw [List.map_id]; exact hal
    have hk' : PySem.W.Sortable (xs.map _root_.id) := by rw [List.map_id]; exact hk
    refine PySem.W.sorted_data (R := fun u x => ∃ v, RelV v u ∧ Dv X.K (jn st hid) H v x) (enc := _root_.id) hl.isList (each_of rv r2) (each_reads I rv r2 nd) hal' hk' ln (fun b hb => ?_) fun out hlen ho => ?_
    · have := hd b hb
      show X.A.units + 2 + b.depth < cLine
      omega
    · obtain ⟨vs', h2, h3⟩ := of_each ho
      have hlen2 := h2.length
      have hn := I.hok.fresh (Nat.le_succ s.heap.objs.size)
      obtain ⟨n, hat⟩ := sortedAll_at s.heap its (List.toArray out)
      refine ⟨.ref (s.heap.objs.size + 1), upd H (s.heap.objs.size + 1) (.lst vs'), I.laid (t' := s.toks) (fun b o e => sortedAll_old e) (Nat.le_succ _) ⟨?_, out, n, h2, by simpa using hat⟩, rfl, mkL_go (ds := (sortD xs).map D.d) q S hn (Dvs.to h3) k⟩
      rw [h2.length, hlen]
      exact ln
  · exact w.elim
end
/-! ### // of any divisor but 0 -/
def CDivF (_ j : Int) : Prop := j ≠ 0 ∧ j.natAbs.log2 < 9000
def rDivF : R2d := rI2 CDivF fun i j => .int (Int.fdiv i j)
theorem o_divF {X : Cx} : OpR X (binaryOp .FloorDiv) (upR X.K rDivF) := up_int (opI fun i j _ _ _ _ _ hc q => floordiv_int hc.1 q (.inl (PyProof.noPylong_of_log2 hc.2)))
theorem bt_sorted : bootBuiltins "sorted" = some (.builtin "sorted") := by decide +kernel
theorem bt_sum : bootBuiltins "sum" = some (.builtin "sum") := by decide +kernel
theorem bt_any : bootBuiltins "any" = some (.builtin "any") := by decide +kernel
theorem u66 {k : Nat} {A : Around} (r : Room k A) : A.units + 66 < cLine := by
  have := r.un
  omega
end DL
namespace DL
open PySem PySem.Spec PyProof.Rows L2
variable [Tabs]
section
variable {e : Ed} {st : Sto} {Q : Ed → Sto → Prop} {i j k l m o p : Nat} {a b c d f g h : PyData}
theorem tup2 : hTup 2 (hCons (hName i) (hCons (hName j) hNil)) (.d (.tuple [a, b])) e st Q = Q ((e.set i (some (.d a))).set j (some (.d b))) st := propext ⟨fun h => h.2.2, fun h => ⟨rfl, rfl, h⟩⟩
theorem tup3 : hTup 3 (hCons (hName i) (hCons (hName j) (hCons (hName k) hNil))) (.d (.tuple [a, b, c])) e st Q = Q (((e.set i (some (.d a))).set j (some (.d b))).set k (some (.d c))) st := propext ⟨fun h => h.2.2, fun h => ⟨rfl, rfl, h⟩⟩
theorem tup4 : hTup 4 (hCons (hName i) (hCons (hName j) (hCons (hName k) (hCons (hName l) hNil)))) (.d (.tuple [a, b, c, d])) e st Q = Q ((((e.set i (some (.d a))).set j (some (.d b))).set k (some (.d c))).set l (some (.d d))) st := propext ⟨fun h => h.2.2, fun h => ⟨rfl, rfl, h⟩⟩
theorem tup5 : hTup 5 (hCons (hName i) (hCons (hName j) (hCons (hName k) (hCons (hName l) (hCons (hName m) hNil))))) (.d (.tuple [a, b, c, d, f])) e st Q = Q (((((e.set i (some (.d a))).set j (some (.d b))).set k (some (.d c))).set l (some (.d d))).set m (some (.d f))) st := propext ⟨fun h => h.2.2, fun h => ⟨rfl, rfl, h⟩⟩
theorem tup22 : hTup 2 (hCons (hTup 2 (hCons (hName i) (hCons (hName j) hNil))) (hCons (hTup 2 (hCons (hName k) (hCons (hName l) hNil))) hNil)) (.d (.tuple [.tuple [a, b], .tuple [c, d]])) e st Q = Q ((((e.set i (some (.d a))).set j (some (.d b))).set k (some (.d c))).set l (some (.d d))) st := propext ⟨fun h => h.2.2.2.2.2.2, fun h => ⟨rfl, rfl, rfl, rfl, rfl, rfl, h⟩⟩
theorem tup12 : hTup 2 (hCons (hName i) (hCons (hTup 2 (hCons (hName k) (hCons (hName l) hNil))) hNil)) (.d (.tuple [a, .tuple [c, d]])) e st Q = Q (((e.set i (some (.d a))).set k (some (.d c))).set l (some (.d d))) st := propext ⟨fun h => h.2.2.2.2, fun h => ⟨rfl, rfl, rfl, rfl, h⟩⟩
end
/-! ### lists that are let go -/
def Sub (st' st : Sto) : Prop := ∀ a, st' a = st a ∨ st' a = none
theorem Sub.refl (st : Sto) : Sub st st := fun _ => .inl rfl
theorem Sx.sub {K : PySem.W.Frag} {st st' hid : Sto} {H : Hp} (S : Sx K st hid H) (h : Sub st' st) : Sx K st' hid H ∧ FrX st hid H st' H := by
  have F : FrX st hid H st' H := Fr.of fun b o hb f => ⟨hb, by
    obtain ⟨h1, h2⟩ := jn_free f
    have e : st' b = none := by
      rcases h b with e | e
      · rw [e]
        exact h1
      · exact e
    rw [jn_none e]
    exact h2⟩
  refine ⟨⟨fun a n => ?_, fun a ds e => ?_, S.tb⟩, F⟩
  · rcases h a with e | e
    · rw [e]
      exact S.dj a n
    · exact e
  · have e' : jn st hid a = some ds := by
      cases q : st' a with
      | some es =>
        rw [jn_some q] at e
        cases e
        rcases h a with z | z
        · exact jn_some (by rw [← z, q])
        · rw [z] at q
          cases q
      | none =>
        rw [jn_none q] at e
        have : st a = none := S.dj a (by rw [e]; exact fun z => nomatch z)
        rw [jn_none this]
        exact e
    exact (S.sr a ds e').keep S.sr F fun _ q => q
def RQ (Q : Kd) : Kd := fun d st => ∃ st', Sub st' st ∧ Q d st'
theorem RQ.of {Q : Kd} {d : D} {st : Sto} (h : Q d st) : RQ Q d st := ⟨st, Sub.refl st, h⟩
theorem Go.sub {K : PySem.W.Frag} {st hid : Sto} {H : Hp} {Qd : Kd} {Q : VK} (k : Go K st hid H Qd Q) : Go K st hid H (RQ Qd) Q := fun v H1 d st1 F1 S1 r ⟨st2, hs, q⟩ => by
  obtain ⟨S2, F2⟩ := S1.sub hs
  exact k v H1 d st2 (Fr.trans F1 F2) S2 (r.mono F2 S1.sr) q
theorem can_ofS {P : Program} {w : World} {K : PySem.W.Frag} {mg : Str → Option Value} {base : Heap} {x : Str} {st : Stmt} {N ps : List Str} {k : Nat} {sp : SpD} {t : TSd} (F : Has K mg x st) (S : FnScope N ps (defScope st)) (len : ∀ ds s Q, sp ds s Q → ds.length = ps.length)
    (bind : ∀ (kV doc pm : Value) (an : Option Addr) (cdv ct : Value) (us : List Value), us.length = ps.length → bindArgs (PySem.W.fnOf x x (defArgs st) (defBody st) (defScope st) .none kV doc pm an cdv ct) ⟨us, []⟩ = pure (ps.zip us))
    (hbody : ∀ (f : Addr) (cd : Value) (A : Around) (outer : List Env) (s : Shared) (H : Hp) (E : XK), A.guards = some [] → Room k (A.deeper (envOfC x (defScope st) s.heap.objs.size f cd)) → PDSs (cxD P w K mg base N x (defScope st) f cd A outer s H E) (defBody st) t)
    (hsp : ∀ ds s Q, sp ds s Q → t { nx := fun _ s' => RQ Q (.d .none) s', rt := RQ Q } (startD N ds) s) : Can P w K mg base (k + 1) x st ps sp := by
  have C : Can P w K mg base (k + 1) x st ps (fun ds s Q => ∃ Q0, sp ds s Q0 ∧ Q = RQ Q0) := can_of F S (fun ds s Q ⟨Q0, h, _⟩ => len ds s Q0 h) bind hbody fun ds s Q ⟨Q0, h, e⟩ => by
    subst e
    exact hsp ds s Q0 h
  obtain ⟨f, fd, ⟨l, r⟩, h⟩ := C.ex
  refine ⟨f, fd, ⟨fun vs H Q E ⟨ds, s, hid, Qd, rd, S, hq, g⟩ => l vs H Q E ⟨ds, s, hid, RQ Qd, rd, S, ⟨Qd, hq, rfl⟩, Go.sub g⟩, fun A outer s H args us vs Q E hg hr e0 hb hv ⟨ds, sd, hid, Qd, rd, Sd, hq, g⟩ => r A outer s H args us vs Q E hg hr e0 hb hv ⟨ds, sd, hid, RQ Qd, rd, Sd, ⟨Qd, hq, rfl⟩, Go.sub g⟩⟩, h⟩
end DL
namespace DL
open PySem PySem.Spec PyProof.Rows L2
variable [Tabs]
/-- repr(x), of a list that may still grow too -/
def cReprX : RCd := fun ds st Q => match ds with
  | [.d x] => x.hasDict = false ∧ x.showable = true ∧ x.shown.length ≤ sizeLine ∧ x.depth ≤ 64 ∧ Q (.d (.str x.shown)) st
  | [.own a] => ∃ xs : List PyData, st a = some (xs.map D.d) ∧ (PyData.list xs).hasDict = false ∧ (PyData.list xs).showable = true ∧ (PyData.list xs).shown.length ≤ sizeLine ∧ (PyData.list xs).depth ≤ 64 ∧ Q (.d (.str (PyData.list xs).shown)) st
  | _ => False
section
variable {X : Cx}
theorem c_reprX (hG : X.A.guards = some []) (hu : X.A.units + 65 < cLine) : CallR X (.builtin "repr") (upC X.K cReprX) := fun pins s σ H vs us Q I rx ⟨ds, st, hid, Qd, r, S, w, k⟩ => by
  unfold cReprX at w
  split at w
  · exact c_repr hG hu pins s σ H vs us Q I rx ⟨_, st, hid, Qd, r, S, w, k⟩
  · rename_i a
    obtain ⟨v, rfl, r1⟩ := r.one
    obtain ⟨xs, e, h1, h2, h3, h4, q⟩ := w
    cases r1 with
    | own _ l =>
      obtain ⟨ws, hw, r2⟩ := S.at_ e l
      have r2 := Dvs.of r2
      obtain ⟨u, rfl, ru⟩ := vals1 rx
      cases ru
      obtain ⟨as, rd⟩ := Dp.reads I _ _ _ (Dp.lst (.inl (.inl hw)) (Dvs.dp r2 (by simpa [PyData.hasDict] using h1))) rfl
      exact repr_of_reads' rd h2 (fun z => by rw [h1] at z; cases z) hG (by omega) (fun _ _ e => e) (fun h' u tk kp => ⟨.str _, H, I.kept kp, ⟨_, rfl⟩, k.now S (.d (.str _)) q⟩) h3
  · exact w.elim
end
end DL
namespace DL
open PySem PySem.Spec PyProof.Rows L2
variable [Tabs]
/-! ### x = [.. for ..]: the name is stored within the comprehension's own swap -/
theorem lcM_imp {X : Cx} {M : List D → Sto → Kd → Prop} (hM : ∀ ds st Q, M ds st Q → mkL ds st Q) {i : Nat} {ti : TId} {tt : TTd} {te : TEd} {σ : L2.St} {H : Hp} {Q : VK} (w : up X.K (dLcM M ti i tt te) σ H Q) : tLc (upI X.K ti) (gName i) (upT X.K tt) (up X.K te) [i] σ H Q := by
  obtain ⟨e, st, hid, Qd, re, S, h, k⟩ := w
  refine ⟨e, st, hid, _, re, S, h, fun J H1 it st1 F1 S1 ok1 at1 ⟨W, w0, turn⟩ p hp => ?_⟩
  have n1 := jn_free (S1.sr.free0 hp)
  refine ⟨fun j m H2 => m = it.xs.length - j ∧ ∃ acc st2, W j acc st2 ∧ Sx X.K (put st2 p acc) hid H2 ∧ st2 p = none ∧ Fr (jn (put st1 p []) hid) (upd H1 p (.lst [])) (jn (put st2 p acc) hid) H2, ⟨it.xs.length, by simp, [], st1, w0, S1.own hp .nil, n1.1, Fr.refl _ _⟩, ?_⟩
  rintro j m H2 ⟨rfl, acc, st2, w2, S2, n2, F2⟩
  obtain ⟨at2, done, go⟩ := turn j acc st2 w2
  have Sh := S2.hide n2
  have eqF : jn st2 (put hid p acc) = jn (put st2 p acc) hid := jn_swap n2
  -- from the state ahead of the new list
  have F12 : Fr (jn st1 hid) H1 (jn (put st2 p acc) hid) H2 := Fr.trans (fx_own hp) F2
  have F02 : Fr (jn st hid) H (jn (put st2 p acc) hid) H2 := Fr.trans F1 F12
  have atF : it.at (jn (put st2 p acc) hid) := fun a ds z => by
    have e1 := at2 a ds z
    have ne : a ≠ p := fun z' => by
      rw [z', n2] at e1
      cases e1
    exact jn_some (by rw [put_ne ne]; exact e1)
  have It := ok1 j _ H2 F12 S2.sr atF
  by_cases hj : it.xs.length ≤ j
  · refine .inl ⟨It.2 hj, ?_⟩
    obtain ⟨vs, hv, rv⟩ := S2.at_ put_same (F2.ls _ [] upd_same)
    rcases hM _ _ _ (done hj) with ⟨xs, ep, q⟩ | q
    · have ea := pures_eq ep
      subst ea
      obtain ⟨Sc, Fc, fc⟩ := S2.frz put_same
      have ec : cut (put st2 p (xs.map D.d)) p = st2 := by
        funext b
        by_cases eb : b = p
        · rw [eb, cut_same, n2]
        · rw [cut_ne eb, put_ne eb]
      rw [ec] at Sc Fc fc
      exact k _ H2 _ st2 (Fr.trans F02 Fc) Sc (.d (.lst hv fc ((Dvs.of rv).mono Fc S2.sr))) q
    · exact k _ H2 _ _ F02 S2 (.own _ ⟨_, hv⟩) (q _ n2)
  · have hlt : j < it.xs.length := Nat.lt_of_not_le hj
    have ed : it.xs[j]? = some it.xs[j] := List.getElem?_eq_getElem hlt
    obtain ⟨g1, g2⟩ := It.1 _ ed
    refine .inr ⟨g1, fun H' => ∃ acc' st', W (j + 1) acc' st' ∧ Sx X.K (put st' p acc') hid H' ∧ st' p = none ∧ Fr (jn (put st1 p []) hid) (upd H1 p (.lst [])) (jn (put st' p acc') hid) H', fun H' ⟨acc', st', h1, h2, h3, h4⟩ => ⟨it.xs.length - (j + 1), by omega, rfl, acc', st', h1, h2, h3, h4⟩, fun x H3 hy => ?_⟩
    obtain ⟨F23, S3r, rx⟩ := g2 x H3 hy
    have S3 : Sx X.K (put st2 p acc) hid H3 := S2.go F23 S3r
    have S3h := S3.hide n2
    have F03 := Fr.trans F02 F23
    have reX : RE X.K (jn st2 (put hid p acc)) H3 (((wipe σ [i]).set i (some x))) (e.set i (some it.xs[j])) := by
      rw [eqF]
      show RE X.K _ H3 ((σ.set i none).set i (some x)) _
      rw [set_none_set]
      exact (re.mono F03 S.sr).set rx
    show wipe ((wipe σ [i]).set i (some x)) [i] = wipe σ [i] ∧ upT X.K tt ((wipe σ [i]).set i (some x)) H3 _
    refine ⟨by
      show (((σ.set i none).set i (some x)).set i none) = σ.set i none
      rw [List.set_set, List.set_set], ?_⟩
    refine ⟨_, st2, put hid p acc, _, reX, S3h, go _ ed, fun b H4 st4 F4 S4 q4 => ?_⟩
    have hn : hid p = none := n1.2
    have F3X : Fr (jn (put st1 p []) hid) (upd H1 p (.lst [])) (jn st2 (put hid p acc)) H3 := by
      rw [eqF]
      exact Fr.trans F2 F23
    cases b with
    | false =>
      rw [if_neg Bool.false_ne_true] at q4
      refine iteF ?_
      obtain ⟨S4', n4⟩ := S4.shown hn
      refine ⟨acc, st4, q4, S4', n4, ?_⟩
      rw [← jn_swap n4]
      exact Fr.trans F3X F4
    | true =>
      rw [if_pos rfl] at q4
      refine iteT ?_
      refine ⟨_, st4, put hid p acc, _, reX.mono F4 S3h.sr, S4, q4, fun v H5 d st5 F5 S5 r5 ⟨hz, w5⟩ => ?_⟩
      obtain ⟨S5', n5⟩ := S5.shown hn
      obtain ⟨vs, hv, rv⟩ := S5'.at_ put_same ((Fr.trans F3X (Fr.trans F4 F5)).ls _ [] upd_same)
      rw [jn_swap n5] at r5
      refine ⟨vs, hv, by rw [Paired.length rv]; exact hz, acc ++ [d], st5, w5, ?_, n5, ?_⟩
      · have := S5'.store (es := acc ++ [d]) put_same (DvsD.snoc rv r5)
        have ee : put (put st5 p acc) p (acc ++ [d]) = put st5 p (acc ++ [d]) := by
          funext b
          by_cases eb : b = p
          · rw [eb, put_same, put_same]
          · rw [put_ne eb, put_ne eb, put_ne eb]
        rw [ee] at this
        exact this
      · have Fa : Fr (jn (put st1 p []) hid) (upd H1 p (.lst [])) (jn (put st5 p acc) hid) H5 := by
          rw [← jn_swap n5]
          exact Fr.trans F3X (Fr.trans F4 F5)
        exact Fr.late Fa (by rw [jn_some put_same]; exact fun z => nomatch z)
theorem psd_setLc {X : Cx} {M : List D → Sto → Kd → Prop} (hM : ∀ ds st Q, M ds st Q → mkL ds st Q) {i m : Nat} {x : Str} {pos' spos : Pos} {elt iter : Expr} {ifs : List Expr} {scope : Scope} {y : Str} {py pos : Pos} {ti : TId} {tt : TTd} {te : TEd} (hc : X.calm = true) (hN : X.N.Nodup) (hi : X.N[i]? = some x) (hx : X.env.scope.names.lookup x = some .local)
    (hs : swapsWith (.ListComp elt [⟨.Name y py, iter, ifs, 0⟩] scope pos) (some (.Name x pos')) spos.line X.env = pure true) (hit : PDI X (.Name y py) iter ti) (ok : BlkOk X.N X.env.scope scope [(y, m)])
    (hg : ∀ (s : Shared) (H : Hp) (C : Addr) (cl : List (Str × Addr)) (fp : List Addr), PG (X.blk s H scope (compEnvC scope cl C X.env) fp) (.Name y py) (gName m))
    (ht : ∀ (s : Shared) (H : Hp) (C : Addr) (cl : List (Str × Addr)) (fp : List Addr), PDTs (X.blk s H scope (compEnvC scope cl C X.env) fp) ifs tt)
    (he : ∀ (s : Shared) (H : Hp) (C : Addr) (cl : List (Str × Addr)) (fp : List Addr), PD (X.blk s H scope (compEnvC scope cl C X.env) fp) elt te) (hf : ∀ x, foldedSetIterable iter X.env x = pure x := by intro _; rfl) :
    PDS X (.Assign [.Name x pos'] (.ListComp elt [⟨.Name y py, iter, ifs, 0⟩] scope pos) spos) (dAsg (dLcM M ti m tt te) (hName i)) :=
  PS.imp (ps_setLc (own := [(y, m)]) (wi := upI X.K ti) (g := gName m) (tt := upT X.K tt) (te := up X.K te) hc hN hi hx hs hit ok hg ht he hf) fun D σ H ⟨e, st, hid, E, re, S, h, k1, k2, k3, k4⟩ =>
    lcM_imp hM ⟨e, st, hid, _, re, S, h, frz_go fun v H1 d st1 F1 S1 r q => k1 _ H1 _ st1 F1 S1 ((re.mono F1 S.sr).set r) q⟩
end DL
namespace DL
open PySem PySem.Spec PyProof.Rows L2
variable [Tabs]
/-! ### xs.insert(at, x) -/
theorem ins_tree {a : Addr} {i : Int} {t : Tok} {y : Value} (h : Builtin.List.listFitsIndex i = true) : Builtin.«list.insert» { pos := [.ref a, .int i t, y] } = (do
    Builtin.List.listUpdate (.ref a) fun xs => (xs.extract 0 (if i < 0 then (i + ↑xs.size).toNat else min i.toNat xs.size)).push y ++ xs.extract (if i < 0 then (i + ↑xs.size).toNat else min i.toNat xs.size)
    ret Value.none) := by
  unfold Builtin.«list.insert»
  have e1 : selfAndSome "list.insert" "insert" 2 2 { pos := [.ref a, .int i t, y] } = pure (.ref a, [.int i t, y]) := rfl
  have e2 : asIndex (.int i t) = pure i := rfl
  rw [e1]
  simp only [pure_bind, e2, h]
  rfl
def insA (i : Int) (y : Value) (xs : Array Value) : Array Value := (xs.extract 0 (if i < 0 then (i + ↑xs.size).toNat else min i.toNat xs.size)).push y ++ xs.extract (if i < 0 then (i + ↑xs.size).toNat else min i.toNat xs.size)
theorem insA_eq {i : Nat} {y : Value} {its : List Value} (h : i ≤ its.length) : insA i y its.toArray = (its.take i ++ y :: its.drop i).toArray := by
  unfold insA
  have e : (if (i : Int) < 0 then ((i : Int) + ↑its.toArray.size).toNat else min (i : Int).toNat its.toArray.size) = i := by
    rw [if_neg (by omega)]
    simp
    omega
  rw [e]
  simp
  exact List.take_of_length_le (by rw [List.length_drop]; exact Nat.le_refl _)
def rIns : V → List V → Hp → VK → Prop := fun x vs H Q => ∃ l xs, ∃ i : Nat, ∃ y, x = .ref l ∧ vs = [.int i, y] ∧ H l = some (.lst xs) ∧ i ≤ xs.length ∧ xs.length < sizeLine ∧ Q .non (upd H l (.lst (xs.take i ++ y :: xs.drop i)))
theorem vals_take : ∀ {vs : List V} {us : List Value} (i : Nat), Vals vs us → Vals (vs.take i) (us.take i) ∧ Vals (vs.drop i) (us.drop i)
  | _, _, 0, h => ⟨.nil, h⟩
  | _, _, _ + 1, .nil => ⟨.nil, .nil⟩
  | _, _, i + 1, .cons r t => ⟨.cons r (vals_take i t).1, (vals_take i t).2⟩
theorem vals_app : ∀ {vs ws : List V} {us ts : List Value}, Vals vs us → Vals ws ts → Vals (vs ++ ws) (us ++ ts)
  | _, _, _, _, .nil, h => h
  | _, _, _, _, .cons r t, h => .cons r (vals_app t h)
theorem vals_ins {vs : List V} {us : List Value} {y : V} {u : Value} (h : Vals vs us) (r : RelV y u) (i : Nat) : Vals (vs.take i ++ y :: vs.drop i) (us.take i ++ u :: us.drop i) := vals_app (vals_take i h).1 (.cons r (vals_take i h).2)
theorem mt_insert {X : Cx} : MtM X "list.insert" rIns := by
  rintro pins s σ H x vs v us Q I rx rvs ⟨l, xs, i, y, rfl, rfl, hl, hi, hz, q⟩
  cases rx
  cases rvs with
  | cons r1 t =>
  rename_i u1 us1
  cases t with
  | cons r2 t =>
  rename_i u2 us2
  cases t
  obtain ⟨t1, rfl⟩ := r1
  obtain ⟨h1, its, n, rv, hat⟩ := I.hok l _ hl
  have el := rv.length
  have fits : Builtin.List.listFitsIndex (i : Int) = true := by
    unfold Builtin.List.listFitsIndex
    have : i ≤ 2 ^ 24 := Nat.le_trans hi (Nat.le_trans (Nat.le_of_lt hz) (by decide))
    simp only [Bool.and_eq_true, decide_eq_true_eq]
    omega
  have upd' : Vals (xs.take i ++ y :: xs.drop i) (its.take i ++ u2 :: its.drop i) := vals_ins rv r2 i
  refine call_meets (S := fun A R s => ∃ o its n, s.heap.get? l = some o ∧ o.data = .seq (List.toArray its) n ∧ i ≤ its.length ∧ its.length < sizeLine ∧ R (.ok (.ret .none)) { s with heap := s.heap.update l (Obj.mapSeq (insA i u2)) }) PySem.F.slot_list_insert ?_ PySem.F.entry_list_insert (PySem.F.args_list_insert_3 _ _ _) ?_ ?_
  · exact ⟨_, hat, rfl⟩
  · intro prog w A R s ⟨o, its, n, h1, h2, h3, h4, q⟩
    rw [ins_tree fits]
    refine wpAny_bind (listUpdate_at h1 h2 ?_ ?_ ?_)
    · exact wpAny_pure q
    · show its.toArray.size ≤ sizeLine
      rw [List.size_toArray]
      omega
    · show (insA i u2 its.toArray).size ≤ sizeLine + 1
      rw [insA_eq h3, List.size_toArray, List.length_append, List.length_cons, List.length_take, List.length_drop]
      omega
  · refine ⟨_, its, n, hat, rfl, by omega, by omega, ?_⟩
    exact ⟨.non, _, I.lset hl hat (insA_eq (by omega)) upd' (by rw [List.length_append, List.length_cons, List.length_take, List.length_drop]; omega), rfl, q⟩
section
variable {X : Cx} {e e1 : Expr} {te te1 : TEd}
/-- xs.insert(i, e) -/
def dIns (to ti te : TEd) : TEd := fun e st Q => to e st fun o st1 => match o with
  | .own a => (st1 a).isSome = true ∧ ti e st1 fun x st2 => match x with
    | .d (.int i) => te e st2 fun d st3 => ∃ ds, ∃ j : Nat, i = j ∧ st3 a = some ds ∧ j ≤ ds.length ∧ ds.length < sizeLine ∧ Q (.d .none) (put st3 a (ds.take j ++ d :: ds.drop j))
    | _ => False
  | _ => False
theorem paired_ins {α β : Type} {R : α → β → Prop} : ∀ {xs : List α} {ys : List β} {x : α} {y : β} (i : Nat), Paired R xs ys → R x y → Paired R (xs.take i ++ x :: xs.drop i) (ys.take i ++ y :: ys.drop i)
  | _, _, _, _, 0, h, r => .cons r h
  | _, _, _, _, _ + 1, .nil, r => .cons r .nil
  | _, _, _, _, i + 1, .cons h t, r => .cons h (paired_ins i t r)
theorem pd_insert {o : Expr} {to ti : TEd} {apos cpos : Pos} (ho : PD X o to) (hi : PD X e1 ti) (ha : PD X e te)
    (hbase : attributeBase o "insert" X.env (eval o X.env) = eval o X.env := by rfl) (hline : (apos.endLine == cpos.line) = true := by rfl)
    (hs0 : starEach [e1, e] X.env = (false, eval e1 X.env) :: starEach [e] X.env := by rfl) (hs1 : starEach [e] X.env = (false, eval e X.env) :: starEach [] X.env := by rfl)
    (hfew : ((backTo cpos (starEach [e1, e] X.env)).all (fun x => !x.1) && (backToKw cpos (keywordEach [] X.env)).all (fun x => x.1.isSome) && decide ([e1, e].length + ([] : List Keyword).length + (if ([] : List Keyword).isEmpty then 0 else 1) < 30)) = true := by rfl)
    (hplain : (backTo cpos (starEach [e] X.env)).any (·.1) = false := by rfl) : PD X (.Call (.Attribute o "insert" apos) [e1, e] [] cpos) (dIns to ti te) := by
  refine PE.imp (pe_bm PySem.F.plainAttrs_list PySem.F.slot_list_insert PySem.F.type_list_insert mt_insert ho (pa_cons hi (pa_cons ha pa_nil hs1) hs0) hbase hfew hline hs0 hplain) fun σ H Q ⟨e, st, hid, Qd, re, S, h, k⟩ => ⟨e, st, hid, _, re, S, h, fun v H1 d st1 F1 S1 r q => ?_⟩
  cases r with
  | d h => exact q.elim
  | scr h f => exact q.elim
  | obj a => exact q.elim
  | tp _ _ => exact q.elim
  | own a l =>
    obtain ⟨h0, q⟩ := q
    obtain ⟨ds, e1⟩ := Option.isSome_iff_exists.mp h0
    obtain ⟨vs, hv, rv⟩ := S1.at_ e1 l
    refine ⟨.inl ⟨rfl, vs, .inl (.inl hv)⟩, e, st1, hid, _, re.mono F1 S.sr, S1, q, fun y H2 dy st2 F2 S2 ry q2 => ?_⟩
    cases ry with
    | own _ _ => exact q2.elim
    | obj _ => exact q2.elim
    | tp _ _ => exact q2.elim
    | scr _ _ => exact q2.elim
    | d ry =>
      cases ry with
      | int i =>
        refine ⟨e, st2, hid, _, (re.mono F1 S.sr).mono F2 S1.sr, S2, q2, fun z H3 dz st3 F3 S3 rz ⟨es, j, ej, e2, hj, hz, q3⟩ => ?_⟩
        subst ej
        obtain ⟨ws, hw, rw'⟩ := S3.at_ e2 (let ⟨_, z⟩ := F2.ls _ _ hv; F3.ls _ _ z)
        have F4 : FrX st3 hid H3 (put st3 a (es.take j ++ dz :: es.drop j)) (upd H3 a (.lst (ws.take j ++ z :: ws.drop j))) := fx_put e2
        have ln := Paired.length rw'
        exact ⟨a, ws, j, z, rfl, rfl, hw, by omega, by omega, k _ _ _ _ (Fr.trans F1 (Fr.trans F2 (Fr.trans F3 F4))) (S3.store e2 (paired_ins j rw' rz)) (.d .non) q3⟩
      | _ => exact q2.elim
end
end DL
namespace DL
open PySem PySem.Spec PyProof.Rows L2
variable [Tabs]
section
variable {X : Cx} {e : Expr} {te : TEd}
/-- x += e, of whole numbers -/
def dAug (i : Nat) (te : TEd) : TSd := fun E e st => ∃ x : Int, e[i]? = some (some (.d (.int x))) ∧ te e st fun y st1 => match y with
  | .d (.int j) => E.nx (e.set i (some (.d (.int (x + j))))) st1
  | _ => False
theorem psd_aug {i : Nat} {x : Str} {pos pos' : Pos} (hN : X.N.Nodup) (hi : X.N[i]? = some x) (hx : Loc X.env.scope x) (he : PD X e te) (hf : X.fn x = true ∨ X.env.scope.names.lookup x = some .local := by first | exact .inl rfl | exact .inr rfl | assumption) :
    PDS X (.AugAssign (.Name x pos') .Add e pos) (dAug i te) := PS.imp (ps_aug hN hi hx he ip_add hf) fun D σ H ⟨e, st, hid, E, re, S, ⟨x, hx, h⟩, k1, k2, k3, k4⟩ => by
  obtain ⟨v, hv, rv⟩ := re.at_ i _ hx
  cases rv with
  | d rv =>
  cases rv
  refine ⟨_, hv, e, st, hid, _, re, S, h, fun y H1 d st1 F1 S1 r q => ?_⟩
  cases r with
  | own _ _ => exact q.elim
  | obj _ => exact q.elim
  | tp _ _ => exact q.elim
  | scr _ _ => exact q.elim
  | d r =>
    cases r with
    | int j => exact ⟨x, j, rfl, rfl, k1 _ H1 _ st1 F1 S1 ((re.mono F1 S.sr).set (.d (.int _))) q⟩
    | _ => exact q.elim
/-- x = y = e -/
def dTwo (i j : Nat) (te : TEd) : TSd := fun E e st => te e st (frz fun d st1 => E.nx ((e.set i (some d)).set j (some d)) st1)
theorem psd_two {i j : Nat} {x y : Str} {px py pos : Pos} (hN : X.N.Nodup) (hi : X.N[i]? = some x) (hj : X.N[j]? = some y) (hx : Loc X.env.scope x) (hy : Loc X.env.scope y) (he : PD X e te)
    (hf : X.fn x = true ∨ X.env.scope.names.lookup x = some .local := by first | exact .inl rfl | exact .inr rfl | assumption) (hg : X.fn y = true ∨ X.env.scope.names.lookup y = some .local := by first | exact .inl rfl | exact .inr rfl | assumption)
    (h1 : (assignEach [.Name x px, .Name y py] X.env).map (·.2) = [assign (.Name x px) X.env, assign (.Name y py) X.env] := by rfl) (h2 : swappedStores [.Name x px, .Name y py] e X.env = pure none := by rfl) :
    PDS X (.Assign [.Name x px, .Name y py] e pos) (dTwo i j te) := ⟨fun pins s σ H D I ⟨e, st, hid, E, re, S, h, k1, k2, k3, k4⟩ =>
  wpAny_Assign_two (thn (he.run pins s σ H (fun v H1 => D.nx ((σ.set i (some v)).set j (some v)) H1) I ⟨e, st, hid, _, re, S, h, frz_go fun v H1 d st1 F1 S1 r q => k1 _ H1 _ st1 F1 S1 (((re.mono F1 S.sr).set r).set r) q⟩) fun u s1 ⟨v, H1, I1, r, q⟩ =>
    thn ((pg_name hN hi hx hf).run pins s1 σ H1 v u (fun σ' H' => σ' = σ.set i (some v) ∧ H' = H1) I1 r ⟨rfl, rfl⟩) fun _ s2 ⟨σ', H', I2, e1, e2⟩ => by
      subst e1
      subst e2
      exact thn ((pg_name hN hj hy hg).run pins s2 _ _ v u (fun σ' H' => D.nx σ' H') I2 r q) fun _ s3 w => w) h1 h2⟩
/-- a def, as a value -/
def dOwnG (f : Addr) : TEd := fun e st Q => Q (.obj f) st
theorem pd_gfn {x : Str} {pos : Pos} {f : Addr} (hg : Gl X x) (hm : X.mg x = some (.ref f)) (hdb : (x == ("__debug__" : Str)) = false := by decide) : PD X (.Name x pos) (dOwnG f) :=
  PE.imp (pe_glob (v := .ref f) hg hm rfl hdb) fun σ H Q ⟨e, st, hid, Qd, re, S, h, k⟩ => k.now S (.obj f) h
theorem pd_gint {x : Str} {pos : Pos} {n : Int} (hg : Gl X x) (hm : ∃ t, X.mg x = some (.int n t)) (hdb : (x == ("__debug__" : Str)) = false := by decide) : PD X (.Name x pos) (dC (.int n)) := by
  obtain ⟨t, hm⟩ := hm
  exact PE.imp (pe_glob (v := .int n) hg hm ⟨t, rfl⟩ hdb) fun σ H Q ⟨e, st, hid, Qd, re, S, h, k⟩ => k.now S (.d (.int n)) h
/-- g(..), g being a local name that holds a def -/
def dFnL (sp : SpD) (i : Nat) (f : Addr) (t : TAd) : TEd := fun e st Q => e[i]? = some (some (.obj f)) ∧ t e st fun xs st1 => sp xs st1 Q
theorem pd_fnL {k : Nat} {f : Addr} {fd : FuncData} {ps : List Str} {sp : SpD} {i : Nat} {x : Str} {p pos : Pos} {es : List Expr} {t : TAd} (F : FnD X.prog X.w X.K X.mg X.base k f fd ps sp) (hG : X.A.guards = some []) (hr : Room k X.A) (hi : X.N[i]? = some x) (hv : Vis X.env.scope x) (hk : PySem.W.keepIn X.K (.ref f) = true) (hb : Binds X.K fd ps [])
    (ha : PDA X (e :: es) t) (hd : (x == ("__debug__" : Str)) = false := by decide) (hcd : (x == ("__classdict__" : Str)) = false := by decide) (he : starEach (e :: es) X.env = (false, eval e X.env) :: starEach es X.env := by rfl)
    (hpl : (backTo pos (starEach es X.env)).any (·.1) = false := by rfl) : PD X (.Call (.Name x p) (e :: es) [] pos) (dFnL sp i f t) := by
  refine ⟨fun pins s σ H Q I ⟨en, st, hid, Qd, re, S, ⟨hf, h⟩, g⟩ => ?_⟩
  obtain ⟨v, hv1, rv⟩ := re.at_ i _ hf
  cases rv
  refine wpAny_Call_Name_kw (thn ((pe_var (pos := p) hi hv hd hcd).run pins s σ H (fun v' H' => v' = .ref f ∧ H' = H) I ⟨_, hv1, rfl, rfl⟩) fun u s1 ⟨v', H', I1, r1, e1, e2⟩ => ?_)
  subst e1
  subst e2
  cases r1
  refine PySem.W.callWith_K (h₀ := X.base) I1.ok.mod.kin hk (thn (ha.run pos pins s1 σ H' (fun vs H1 => upSp X.K sp vs H1 Q E0) I1 ⟨en, st, hid, _, re, S, h, fun vs H1 ds1 st1 F1 S1 r1 h1 => ?_⟩) fun us s2 ⟨vs, H1, I2, r, q⟩ => ⟨I2.kIn, ?_⟩) he hpl
  · show upSp X.K sp vs H1 Q E0
    exact ⟨_, st1, hid, Qd, r1, S1, h1, Go.mono g F1⟩
  · exact run_fg F hG hr I2 (fun hl => by have := hb s2 us I2.kIn (by simpa using hl); simpa using this) r q
end
end DL
namespace DL
open PySem PySem.Spec PyProof.Rows L2
variable [Tabs]
theorem lcP_imp {X : Cx} {M : List D → Sto → Kd → Prop} (hM : ∀ ds st Q, M ds st Q → mkL ds st Q) {ti : TId} {tt : TTd} {te : TEd} (p : Pat) (own : List (Str × Nat)) (ho : ∀ i, i ∈ own.map (·.2) ↔ i ∈ slots p) {σ : L2.St} {H : Hp} {Q : VK} (w : up X.K (dLcP M ti p tt te) σ H Q) : tLc (upI X.K ti) (gP X.K p) (upT X.K tt) (up X.K te) (own.map (·.2)) σ H Q := by
  obtain ⟨e, st, hid, Qd, re, S, h, k⟩ := w
  refine ⟨e, st, hid, _, re, S, h, fun J H1 it st1 F1 S1 ok1 at1 ⟨W, w0, turn⟩ p' hp => ?_⟩
  have n1 := jn_free (S1.sr.free0 hp)
  refine ⟨fun j m H2 => m = it.xs.length - j ∧ ∃ acc st2, W j acc st2 ∧ Sx X.K (put st2 p' acc) hid H2 ∧ st2 p' = none ∧ Fr (jn (put st1 p' []) hid) (upd H1 p' (.lst [])) (jn (put st2 p' acc) hid) H2, ⟨it.xs.length, by simp, [], st1, w0, S1.own hp .nil, n1.1, Fr.refl _ _⟩, ?_⟩
  rintro j m H2 ⟨rfl, acc, st2, w2, S2, n2, F2⟩
  obtain ⟨at2, done, go⟩ := turn j acc st2 w2
  have Sh := S2.hide n2
  have eqF : jn st2 (put hid p' acc) = jn (put st2 p' acc) hid := jn_swap n2
  have F12 : Fr (jn st1 hid) H1 (jn (put st2 p' acc) hid) H2 := Fr.trans (fx_own hp) F2
  have F02 : Fr (jn st hid) H (jn (put st2 p' acc) hid) H2 := Fr.trans F1 F12
  have atF : it.at (jn (put st2 p' acc) hid) := fun a ds z => by
    have e1 := at2 a ds z
    have ne : a ≠ p' := fun z' => by
      rw [z', n2] at e1
      cases e1
    exact jn_some (by rw [put_ne ne]; exact e1)
  have It := ok1 j _ H2 F12 S2.sr atF
  by_cases hj : it.xs.length ≤ j
  · refine .inl ⟨It.2 hj, ?_⟩
    obtain ⟨vs, hv, rv⟩ := S2.at_ put_same (F2.ls _ [] upd_same)
    rcases hM _ _ _ (done hj) with ⟨xs, ep, q⟩ | q
    · have ea := pures_eq ep
      subst ea
      obtain ⟨Sc, Fc, fc⟩ := S2.frz put_same
      have ec : cut (put st2 p' (xs.map D.d)) p' = st2 := by
        funext b
        by_cases eb : b = p'
        · rw [eb, cut_same, n2]
        · rw [cut_ne eb, put_ne eb]
      rw [ec] at Sc Fc fc
      exact k _ H2 _ st2 (Fr.trans F02 Fc) Sc (.d (.lst hv fc ((Dvs.of rv).mono Fc S2.sr))) q
    · exact k _ H2 _ _ F02 S2 (.own _ ⟨_, hv⟩) (q _ n2)
  · have hlt : j < it.xs.length := Nat.lt_of_not_le hj
    have ed : it.xs[j]? = some it.xs[j] := List.getElem?_eq_getElem hlt
    obtain ⟨g1, g2⟩ := It.1 _ ed
    refine .inr ⟨g1, fun H' => ∃ acc' st', W (j + 1) acc' st' ∧ Sx X.K (put st' p' acc') hid H' ∧ st' p' = none ∧ Fr (jn (put st1 p' []) hid) (upd H1 p' (.lst [])) (jn (put st' p' acc') hid) H', fun H' ⟨acc', st', h1, h2, h3, h4⟩ => ⟨it.xs.length - (j + 1), by omega, rfl, acc', st', h1, h2, h3, h4⟩, fun x H3 hy => ?_⟩
    obtain ⟨F23, S3r, rx⟩ := g2 x H3 hy
    obtain ⟨xd, e', exd, he', go2⟩ := go _ ed
    rw [exd] at rx
    cases rx with
    | d rx =>
    have S3 : Sx X.K (put st2 p' acc) hid H3 := S2.go F23 S3r
    have S3h := S3.hide n2
    have F03 := Fr.trans F02 F23
    have reo : REo X.K (jn (put st2 p' acc) hid) H3 (· ∈ own.map (·.2)) (wipe σ (own.map (·.2))) e := (re.mono F03 S.sr).off _
    refine gP_go p reo rx he' (fun i hi => (ho i).mpr hi) fun σ2 r2 w2 => ?_
    have reX : RE X.K (jn st2 (put hid p' acc)) H3 σ2 e' := by
      rw [eqF]
      exact r2.on fun i hi => hi.2 ((ho i).mp hi.1)
    have ww : wipe (wipe σ (own.map (·.2))) (own.map (·.2)) = wipe σ (own.map (·.2)) := by
      refine List.ext_getElem? fun i => ?_
      by_cases hi : i ∈ own.map (·.2)
      · by_cases hl : i < σ.length
        · rw [wipe_in hi (by rw [wipe_length]; exact hl), wipe_in hi hl]
        · rw [List.getElem?_eq_none (by rw [wipe_length, wipe_length]; omega), List.getElem?_eq_none (by rw [wipe_length]; omega)]
      · rw [wipe_at hi]
    refine ⟨w2.trans ww, ?_⟩
    refine ⟨_, st2, put hid p' acc, _, reX, S3h, go2, fun b H4 st4 F4 S4 q4 => ?_⟩
    have hn : hid p' = none := n1.2
    have F3X : Fr (jn (put st1 p' []) hid) (upd H1 p' (.lst [])) (jn st2 (put hid p' acc)) H3 := by
      rw [eqF]
      exact Fr.trans F2 F23
    cases b with
    | false =>
      rw [if_neg Bool.false_ne_true] at q4
      refine iteF ?_
      obtain ⟨S4', n4⟩ := S4.shown hn
      refine ⟨acc, st4, q4, S4', n4, ?_⟩
      rw [← jn_swap n4]
      exact Fr.trans F3X F4
    | true =>
      rw [if_pos rfl] at q4
      refine iteT ?_
      refine ⟨_, st4, put hid p' acc, _, reX.mono F4 S3h.sr, S4, q4, fun v H5 d st5 F5 S5 r5 ⟨hz, w5⟩ => ?_⟩
      obtain ⟨S5', n5⟩ := S5.shown hn
      obtain ⟨vs, hv, rv⟩ := S5'.at_ put_same ((Fr.trans F3X (Fr.trans F4 F5)).ls _ [] upd_same)
      rw [jn_swap n5] at r5
      refine ⟨vs, hv, by rw [Paired.length rv]; exact hz, acc ++ [d], st5, w5, ?_, n5, ?_⟩
      · have := S5'.store (es := acc ++ [d]) put_same (DvsD.snoc rv r5)
        have ee : put (put st5 p' acc) p' (acc ++ [d]) = put st5 p' (acc ++ [d]) := by
          funext b
          by_cases eb : b = p'
          · rw [eb, put_same, put_same]
          · rw [put_ne eb, put_ne eb, put_ne eb]
        rw [ee] at this
        exact this
      · have Fa : Fr (jn (put st1 p' []) hid) (upd H1 p' (.lst [])) (jn (put st5 p' acc) hid) H5 := by
          rw [← jn_swap n5]
          exact Fr.trans F3X (Fr.trans F4 F5)
        exact Fr.late Fa (by rw [jn_some put_same]; exact fun z => nomatch z)
theorem psd_setLcP {X : Cx} {M : List D → Sto → Kd → Prop} (hM : ∀ ds st Q, M ds st Q → mkL ds st Q) {i : Nat} {x : Str} {pos' spos : Pos} {elt iter tg : Expr} {ifs : List Expr} {scope : Scope} {pos : Pos} {ti : TId} {tt : TTd} {te : TEd} (p : Pat) (own : List (Str × Nat)) (ho : ∀ i, i ∈ own.map (·.2) ↔ i ∈ slots p) (hc : X.calm = true) (hN : X.N.Nodup) (hi : X.N[i]? = some x) (hx : X.env.scope.names.lookup x = some .local)
    (hs : swapsWith (.ListComp elt [⟨tg, iter, ifs, 0⟩] scope pos) (some (.Name x pos')) spos.line X.env = pure true) (hit : PDI X tg iter ti) (ok : BlkOk X.N X.env.scope scope own)
    (hg : ∀ (s : Shared) (H : Hp) (C : Addr) (cl : List (Str × Addr)) (fp : List Addr), PG (X.blk s H scope (compEnvC scope cl C X.env) fp) tg (gP X.K p))
    (ht : ∀ (s : Shared) (H : Hp) (C : Addr) (cl : List (Str × Addr)) (fp : List Addr), PDTs (X.blk s H scope (compEnvC scope cl C X.env) fp) ifs tt)
    (he : ∀ (s : Shared) (H : Hp) (C : Addr) (cl : List (Str × Addr)) (fp : List Addr), PD (X.blk s H scope (compEnvC scope cl C X.env) fp) elt te) (hf : ∀ x, foldedSetIterable iter X.env x = pure x := by intro _; rfl) :
    PDS X (.Assign [.Name x pos'] (.ListComp elt [⟨tg, iter, ifs, 0⟩] scope pos) spos) (dAsg (dLcP M ti p tt te) (hName i)) :=
  PS.imp (ps_setLc (own := own) (wi := upI X.K ti) (g := gP X.K p) (tt := upT X.K tt) (te := up X.K te) hc hN hi hx hs hit ok hg ht he hf) fun D σ H ⟨e, st, hid, E, re, S, h, k1, k2, k3, k4⟩ =>
    lcP_imp hM p own ho ⟨e, st, hid, _, re, S, h, frz_go fun v H1 d st1 F1 S1 r q => k1 _ H1 _ st1 F1 S1 ((re.mono F1 S.sr).set r) q⟩
end DL
namespace DL
open PySem PySem.Spec PyProof.Rows L2
variable [Tabs]
/-- a, b, .. = x, y, .. by way of a tuple -/
def dUnp (n : Nat) (t : TAd) (u : TGsd) : TSd := fun E e st => t e st fun ds st1 => ds.length = n ∧ u ds e st1 E.nx
theorem psd_unp {X : Cx} {es gs : List Expr} {k k2 n : Nat} {pos pos1 pos2 : Pos} {t : TAd} {u : TGsd} (hc : X.calm = true) (ha : PDA X es t) (hgs : PDGs X gs u)
    (hn : (assignEach gs X.env).length = n := by rfl) (hst : (assignEach gs X.env).findIdx? (·.1) = none := by rfl)
    (hs : swapsWithSole [.Tuple gs k pos1] (.Tuple es k2 pos2) pos.line X.env = pure false := by rfl) (hw : swappedStores [.Tuple gs k pos1] (.Tuple es k2 pos2) X.env = pure none := by rfl)
    (h1 : (assignEach [.Tuple gs k pos1] X.env).map (·.2) = [assign (.Tuple gs k pos1) X.env] := by rfl) (hz : n ≤ sizeLine := by decide) : PDS X (.Assign [.Tuple gs k pos1] (.Tuple es k2 pos2) pos) (dUnp n t u) :=
  PS.imp (ps_asg (pe_tup ha) (pg_tup hc hgs hn hst) hs hw h1) fun D σ H ⟨e, st, hid, E, re, S, h, k1, k2, k3, k4⟩ => by
    refine ⟨e, st, hid, _, re, S, h, fun vs H1 ds st1 F1 S1 r1 ⟨hl, q⟩ => ?_⟩
    have ln := Paired.length r1
    refine ⟨by omega, fun p hp => ?_⟩
    have F2 : Fr (jn st1 hid) H1 (jn st1 hid) (upd H1 p (.tup vs)) := fr_new hp
    exact ⟨p, vs, rfl, .inl (.inl upd_same), by omega, ds, e, st1, hid, E.nx, DvsD.mono F2 S1.sr r1, (re.mono F1 S.sr).mono F2 S1.sr, S1.new hp, q, GoS.mono k1 (Fr.trans F1 F2)⟩
end DL
namespace DL
open PySem PySem.Spec PyProof.Rows L2
variable [Tabs]
/-! ### a module's own tuple of texts -/
structure GTup (K : PySem.W.Frag) (mg : Str → Option Value) (x : Str) (ts : List Str) : Prop where
  ex : ∃ a o its n, mg x = some (.ref a) ∧ List.lookup a K = some o ∧ o.cls = Value.type "tuple" ∧ o.data = Data.seq its n ∧ its.size ≤ sizeLine ∧ Vals (ts.map V.str) its.toList
theorem strs_to {K : PySem.W.Frag} {st : Sto} {H : Hp} : ∀ ts : List Str, Dvs K st H (ts.map V.str) (ts.map PyData.str)
  | [] => .nil
  | t :: r => .cons (.str t) (strs_to r)
theorem pd_gtup {X : Cx} {x : Str} {pos : Pos} {ts : List Str} (hg : Gl X x) (h : GTup X.K X.mg x ts) (hdb : (x == ("__debug__" : Str)) = false := by decide) : PD X (.Name x pos) (dC (.tuple (ts.map PyData.str))) := by
  obtain ⟨a, o, its, n, hm, h1, h2, h3, h4, h5⟩ := h.ex
  exact PE.imp (pe_glob (v := .ref a) hg hm rfl hdb) fun σ H Q ⟨e, st, hid, Qd, re, S, h, k⟩ => k.now S (.d (.tup (.inr ⟨o, its, n, h1, h2, h3, h4, h5⟩) (strs_to ts))) h
end DL
namespace DL
open PySem PySem.Spec PyProof.Rows L2
variable [Tabs]
/-! ### defs whose last parameters have defaults -/
section
variable {P : Program} {w : World} {K : PySem.W.Frag} {mg : Str → Option Value} {base : Heap}
theorem fnD_okD {x qual : Str} {st : Stmt} {f : Addr} {fd : FuncData} {N ps : List Str} {dvs : List V} {kws : List (Str × V)} {k : Nat} {sp : SpD} {t : TSd} (F : FunD K x qual (defArgs st) (defBody st) (defScope st) dvs kws f fd) (S : FnScope N ps (defScope st)) (len : ∀ ds s Q, sp ds s Q → ds.length = ps.length)
    (hbody : ∀ (cd : Value) (A : Around) (outer : List Env) (s : Shared) (H : Hp) (E : XK), A.guards = some [] → Room k (A.deeper (envOfC qual (defScope st) s.heap.objs.size f cd)) → PDSs (cxD P w K mg base N qual (defScope st) f cd A outer s H E) (defBody st) t)
    (hsp : ∀ ds s Q, sp ds s Q → t { nx := fun _ s' => Q (.d .none) s', rt := Q } (startD N ds) s) : FnD P w K mg base (k + 1) f fd ps sp := by
  obtain ⟨oc, od, dV, kV, doc, pm, an, cd, ct, osl, rfl, lk, hcd, _, _⟩ := F.ex
  have lenV : ∀ vs H Q E, upSp K sp vs H Q E → vs.length = ps.length := fun vs H Q E ⟨ds, s, hid, Qd, r, _, h, _⟩ => (Paired.length r).trans (len ds s Qd h)
  refine ⟨lenV, fun A outer s H args us vs Q E hg hr e0 hb r hq => ?_⟩
  have KX : K.In s.heap := e0.mod.kin.keeps fun b o e => (e0.bs b o e).1
  have lim : s.heap.NoLimit := e0.mod.nolimit.keeps fun b o e => (e0.bs b o e).1
  have hkind : ∀ y ∈ ps.zip us, (defScope st).names.lookup y.1 = some .local ∨ ((defScope st).names.lookup y.1 = some .cell ∧ ((cellsFrom (s.heap.objs.size + 1) (defScope st).names []).lookup y.1).isSome = true) := fun y hy =>
    (S.par y.1 (List.of_mem_zip (show (y.1, y.2) ∈ ps.zip us from hy)).1).elim .inl fun q => .inr ⟨q, PySem.W.cellsFrom_some _ _ _ (.inl q)⟩
  refine codeAny_call_function hr.depth (KX _ _ lk) rfl S.co S.gen rfl (PySem.W.codeRec_of KX hcd) (hb _ _ _ _ (wpAny_newFunctionEnv_cells S.kind hkind fun env he s1 x1 => ?_))
  subst he
  refine ⟨lim.keeps x1.toInCall.keep, codeAny_func ?_⟩
  have ht := (hbody cd A outer s H E hg (hr.deeper _)).nox
  have I := inv_start (CX := CX0) (K := K) (mg := mg) (base := base) (E := E) S hr.hd e0 (lenV _ _ _ _ hq) r x1
  obtain ⟨ds, sd, hid, Qd, rd, Sd, hd, gd⟩ := hq
  have rdy : upS K t { nx := fun _ H' => Q .non H', rt := Q } (L2.start N vs) H := by
    refine ⟨startD N ds, sd, hid, { nx := fun _ s' => Qd (.d .none) s', rt := Qd }, re_start rd, Sd, hsp ds sd Qd hd, ?_, gd, ?_, ?_⟩
    · exact fun _ H' _ st' F' S' _ q => gd .non H' _ st' F' S' (.d .non) q
    · exact fun _ _ _ _ _ _ _ q => q.elim
    · exact fun _ _ _ _ _ _ _ q => q.elim
  refine wpAny_mono (ht.run [] s1 (L2.start N vs) H _ I rdy) (fun fl s' hs => ?_) fun e s' hs => hs
  cases fl with
  | ret u =>
    obtain ⟨v, σ', H', J, rv, q⟩ := hs
    exact ⟨v, H', J.os, J.bare, J.base, J.hok, rv, q⟩
  | next =>
    obtain ⟨σ', H', J, q⟩ := hs
    exact ⟨.non, H', J.os, J.bare, J.base, J.hok, rfl, q⟩
  | brk =>
    obtain ⟨_, _, _, q⟩ := hs
    exact False.elim q
  | cont =>
    obtain ⟨_, _, _, q⟩ := hs
    exact False.elim q
/-- a def with defaults, where it stands -/
structure HasD (K : PySem.W.Frag) (mg : Str → Option Value) (x : Str) (st : Stmt) (dvs : List V) : Prop where
  ex : ∃ f fd, mg x = some (.ref f) ∧ FunD K x x (defArgs st) (defBody st) (defScope st) dvs [] f fd
/-- callable with a promise, with all arguments or with those ahead of the defaults -/
structure CanD (P : Program) (w : World) (K : PySem.W.Frag) (mg : Str → Option Value) (base : Heap) (k : Nat) (x : Str) (dvs : List V) (ps : List Str) (sp : SpD) : Prop where
  ex : ∃ f fd, FnD P w K mg base k f fd ps sp ∧ mg x = some (.ref f) ∧ PySem.W.keepIn K (.ref f) = true ∧ Binds K fd ps [] ∧ ∃ ds, Vals dvs ds ∧ Binds K fd ps ds
theorem canD_of {x : Str} {st : Stmt} {N ps : List Str} {dvs : List V} {k : Nat} {sp : SpD} {t : TSd} (F : HasD K mg x st dvs) (S : FnScope N ps (defScope st)) (hd : dvs ≠ []) (n : Nat) (hn : n + dvs.length = ps.length)
    (b0 : ∀ (T : Addr) (kV doc pm : Value) (an : Option Addr) (cdv ct : Value) (us its : List Value), us.length = ps.length → its.length = dvs.length →
      ∃ k, bindArgs (PySem.W.fnOf x x (defArgs st) (defBody st) (defScope st) (.ref T) kV doc pm an cdv ct) ⟨us, []⟩ = seqItems? (.ref T) >>= k ∧ k (some its.toArray) = pure (ps.zip us))
    (b1 : ∀ (T : Addr) (kV doc pm : Value) (an : Option Addr) (cdv ct : Value) (us its : List Value), us.length = n → its.length = dvs.length →
      ∃ k, bindArgs (PySem.W.fnOf x x (defArgs st) (defBody st) (defScope st) (.ref T) kV doc pm an cdv ct) ⟨us, []⟩ = seqItems? (.ref T) >>= k ∧ k (some its.toArray) = pure (ps.zip (us ++ its)))
    (len : ∀ ds s Q, sp ds s Q → ds.length = ps.length)
    (hbody : ∀ (f : Addr) (cd : Value) (A : Around) (outer : List Env) (s : Shared) (H : Hp) (E : XK), A.guards = some [] → Room k (A.deeper (envOfC x (defScope st) s.heap.objs.size f cd)) → PDSs (cxD P w K mg base N x (defScope st) f cd A outer s H E) (defBody st) t)
    (hsp : ∀ ds s Q, sp ds s Q → t { nx := fun _ s' => Q (.d .none) s', rt := Q } (startD N ds) s) : CanD P w K mg base (k + 1) x dvs ps sp := by
  obtain ⟨f, fd, hm, F⟩ := F.ex
  refine ⟨f, fd, fnD_okD F S len (hbody f) hsp, hm, F.kp, ?_, ?_⟩
  · obtain ⟨ds, v, B⟩ := F.binds1 (ps := ps) ps.length dvs.length hd (by omega) fun T kV doc pm an cdv ct us its h1 h2 => by
      obtain ⟨k, e1, e2⟩ := b0 T kV doc pm an cdv ct us its h1 h2
      refine ⟨k, e1, ?_⟩
      rw [e2, ← h2, List.drop_length, List.append_nil]
    rw [List.drop_length] at v
    cases v
    exact B
  · obtain ⟨ds, v, B⟩ := F.binds1 (ps := ps) n 0 hd (by omega) fun T kV doc pm an cdv ct us its h1 h2 => b1 T kV doc pm an cdv ct us its h1 h2
    exact ⟨ds, v, B⟩
end
section
variable {X : Cx} {k : Nat} {ps ks : List Str} {sp : SpD} {x : Str} {dvs : List V} {dds : List D} {p pos : Pos} {e : Expr} {es : List Expr} {kws : List Keyword} {t tk : TAd}
theorem pd_callD (C : CanD X.prog X.w X.K X.mg X.base k x dvs ps sp) (hG : X.A.guards = some []) (hr : Room k X.A) (hg : Gl X x) (ha : PDA X (e :: es) t) (hdb : (x == ("__debug__" : Str)) = false := by decide)
    (he : starEach (e :: es) X.env = (false, eval e X.env) :: starEach es X.env := by rfl) (hpl : (backTo pos (starEach es X.env)).any (·.1) = false := by rfl) : PD X (.Call (.Name x p) (e :: es) [] pos) (dFn0 sp t) := by
  obtain ⟨f, fd, F, hm, kp, B, _⟩ := C.ex
  refine PE.imp (pd_fn (dds := []) F hG hr hg hm kp B ⟨[], .nil, fun _ _ => .nil⟩ ha hdb he hpl) fun σ H Q ⟨e, s, hid, Qd, re, S, h, k⟩ => ⟨e, s, hid, Qd, re, S, ?_, k⟩
  have ee : (fun xs st1 => sp (xs ++ []) st1 Qd) = fun xs st1 => sp xs st1 Qd := by
    funext xs st1
    rw [List.append_nil]
  show t e s (fun xs st1 => sp (xs ++ []) st1 Qd)
  rw [ee]
  exact h
theorem pd_callDd (C : CanD X.prog X.w X.K X.mg X.base k x dvs ps sp) (hd : ∀ st H, DvsD X.K st H dvs dds) (hG : X.A.guards = some []) (hr : Room k X.A) (hg : Gl X x) (ha : PDA X (e :: es) t) (hdb : (x == ("__debug__" : Str)) = false := by decide)
    (he : starEach (e :: es) X.env = (false, eval e X.env) :: starEach es X.env := by rfl) (hpl : (backTo pos (starEach es X.env)).any (·.1) = false := by rfl) : PD X (.Call (.Name x p) (e :: es) [] pos) (dFn sp dds t) := by
  obtain ⟨f, fd, F, hm, kp, _, ds, v, B⟩ := C.ex
  exact pd_fn F hG hr hg hm kp B ⟨dvs, v, hd⟩ ha hdb he hpl
end
theorem gtup_mk {K : PySem.W.Frag} {h : Heap} {mg : Str → Option Value} {x : Str} {ts : List Str} {a : Addr} {o : Obj} {its : List Value} {n : Nat} (X : K.In h) (G : h.Ns mainGlobals mg)
    (e : PySem.W.nsIn K mainGlobals x = some (some (.ref a))) (l : K.lookup a = some o) (c : o.cls = Value.type "tuple") (d : o.data = .seq its.toArray n) (s : its.length ≤ sizeLine) (v : Vals (ts.map V.str) its) : GTup K mg x ts :=
  ⟨a, o, its.toArray, n, PySem.W.mg_of X G e, l, c, d, by simpa using s, by simpa using v⟩
theorem hasD_mk {K : PySem.W.Frag} {h : Heap} {mg : Str → Option Value} {x : Str} {st : Stmt} {dvs : List V} {f : Addr} {od an : Option Addr} {sl : Array (Option Value)} {oc kV dc pm cd ct : Value} {T : Addr} {o : Obj} {its : List Value} {n : Nat} (X : K.In h) (G : h.Ns mainGlobals mg)
    (a : PySem.W.nsIn K mainGlobals x = some (some (.ref f))) (l : K.lookup f = some ⟨oc, od, .func (PySem.W.fnOf x x (defArgs st) (defBody st) (defScope st) (.ref T) kV dc pm an cd ct), sl⟩) (c : PySem.W.codeIn K cd x = true) (k : PySem.W.keepIn K (.ref f) = true)
    (hd : dvs ≠ []) (lT : K.lookup T = some o) (oT : o.data = .seq its.toArray n) (vT : Vals dvs its) : HasD K mg x st dvs :=
  ⟨f, _, PySem.W.mg_of X G a, ⟨oc, od, _, kV, dc, pm, an, cd, ct, sl, rfl, l, c, .inr ⟨hd, T, o, its, n, rfl, lT, oT, vT⟩, .inl rfl⟩, k⟩
end DL
namespace DL
open PySem PySem.Spec PyProof.Rows L2
variable [Tabs]
/-! ### int of a truth, max and sum of a list -/
section
variable {X : Cx}
def cIntB : RCd := fun ds st Q => match ds with
  | [.d (.int i)] => Q (.d (.int i)) st
  | [.d (.bool b)] => Q (.d (.int (if b = true then 1 else 0))) st
  | _ => False
theorem c_intB : CallR X (.type "int") (upC X.K cIntB) := CallR.imp call_int1 fun vs H Q ⟨ds, st, hid, Qd, r, S, w, k⟩ => by
  unfold cIntB at w
  split at w
  · obtain ⟨v, rfl, r1⟩ := r.one
    exact .inl ⟨_, by rw [int_at r1], k.now S (.d (.int _)) w⟩
  · obtain ⟨v, rfl, r1⟩ := r.one
    exact .inr ⟨_, by rw [bl_at r1], k.now S (.d (.int _)) w⟩
  · exact w.elim
theorem ints_at {K : PySem.W.Frag} {st hid : Sto} {H : Hp} : ∀ {vs : List V} {ns : List Int}, DvsD K (jn st hid) H vs (ns.map fun n => .d (.int n)) → vs = ns.map V.int
  | [], [], _ => rfl
  | _ :: _, n :: ns, .cons h t => by
    have e := int_at h
    have e2 := ints_at t
    subst e
    rw [e2]
    rfl
def cMaxL : RCd := fun ds st Q => match ds with
  | [x] => ∃ ns : List Int, lstOf x st = some (ns.map fun n => .d (.int n)) ∧ 0 < ns.length ∧ ∀ m, m ∈ ns → (∀ y, y ∈ ns → y ≤ m) → Q (.d (.int m)) st
  | _ => False
theorem c_maxL (hc : X.calm = true) : CallR X (.builtin "max") (upC X.K cMaxL) := CallR.imp (cr_max hc) fun vs H Q ⟨ds, st, hid, Qd, r, S, w, k⟩ => by
  unfold cMaxL at w
  split at w
  · obtain ⟨ns, e, h0, q⟩ := w
    obtain ⟨v, rfl, r1⟩ := r.one
    obtain ⟨a, xs, rfl, h, rs⟩ := lstOf_at r1 S e
    rw [ints_at rs] at h
    exact ⟨a, ns, rfl, h, h0, fun m hm hy => k.now S (.d (.int _)) (q m hm hy)⟩
  · exact w.elim
def cSumL : RCd := fun ds st Q => match ds with
  | [x] => ∃ ns : List Int, lstOf x st = some (ns.map fun n => .d (.int n)) ∧ Q (.d (.int ns.sum)) st
  | _ => False
theorem c_sumL (hc : X.calm = true) : CallR X (.builtin "sum") (upC X.K cSumL) := CallR.imp (cr_sum hc) fun vs H Q ⟨ds, st, hid, Qd, r, S, w, k⟩ => by
  unfold cSumL at w
  split at w
  · obtain ⟨ns, e, q⟩ := w
    obtain ⟨v, rfl, r1⟩ := r.one
    obtain ⟨a, xs, rfl, h, rs⟩ := lstOf_at r1 S e
    rw [ints_at rs] at h
    exact ⟨a, ns, rfl, h, k.now S (.d (.int _)) q⟩
  · exact w.elim
end
end DL
namespace DL
open PySem PySem.Spec PyProof.Rows L2
variable [Tabs]
theorem cut_from {α : Type} {l : List α} {i : Nat} (h : i ≤ l.length) : cutP l (some (i : Int)) none = l.drop i := by
  have e1 : HT.sIx l.length 0 (some (i : Int)) = i := by
    show (if (i : Int) < 0 then ((i : Int) + ↑l.length).toNat else min (i : Int).toNat l.length) = i
    rw [if_neg (by omega)]
    omega
  have e2 : HT.sIx l.length l.length none = l.length := rfl
  unfold cutP
  rw [e1, e2]
  exact List.take_of_length_le (by rw [List.length_drop]; omega)
theorem cut_to {α : Type} {l : List α} {i : Nat} (h : i ≤ l.length) : cutP l none (some (i : Int)) = l.take i := by
  have e1 : HT.sIx l.length l.length (some (i : Int)) = i := by
    show (if (i : Int) < 0 then ((i : Int) + ↑l.length).toNat else min (i : Int).toNat l.length) = i
    rw [if_neg (by omega)]
    omega
  have e2 : HT.sIx l.length 0 none = 0 := rfl
  unfold cutP
  rw [e1, e2]
  rfl
theorem cut_last {α : Type} {l : List α} : cutP l none (some (-1)) = l.take (l.length - 1) := by
  have e1 : HT.sIx l.length l.length (some (-1)) = l.length - 1 := by
    show (if (-1 : Int) < 0 then ((-1 : Int) + ↑l.length).toNat else min (-1 : Int).toNat l.length) = l.length - 1
    rw [if_pos (by omega)]
    omega
  have e2 : HT.sIx l.length 0 none = 0 := rfl
  unfold cutP
  rw [e1, e2]
  rfl
theorem cut_at_last {α : Type} {l : List α} : cutP l (some (-1)) none = l.drop (l.length - 1) := by
  have e1 : HT.sIx l.length 0 (some (-1)) = l.length - 1 := by
    show (if (-1 : Int) < 0 then ((-1 : Int) + ↑l.length).toNat else min (-1 : Int).toNat l.length) = l.length - 1
    rw [if_pos (by omega)]
    omega
  have e2 : HT.sIx l.length l.length none = l.length := rfl
  unfold cutP
  rw [e1, e2]
  exact List.take_of_length_le (by rw [List.length_drop]; omega)
theorem cut_tail {α : Type} {a : α} {r : List α} : cutP (a :: r) (some 1) none = r := cut_from (i := 1) (by simp)
theorem in_strs (w : Str) (ws : List Str) : ((ws.map PyData.str).any fun z => PyData.eqv z (.str w)) = ws.contains w := by
  induction ws with
  | nil => rfl
  | cons a r ih =>
    rw [List.map_cons, List.any_cons, ih, List.contains_cons]
    congr 1
    show (a == w) = (w == a)
    rw [Bool.eq_iff_iff, beq_iff_eq, beq_iff_eq]
    exact eq_comm
theorem rin_strs {neg : Bool} {w : Str} {ws : List Str} {st : Sto} {Q : Kd} (h : Q (.d (.bool (neg != ws.contains w))) st) : rInV neg (.d (.str w)) (.d (.tuple (ws.map PyData.str))) st Q := by
  refine ⟨rfl, ?_, ?_⟩
  · rw [List.all_map]
    exact List.all_eq_true.mpr fun _ _ => rfl
  · rw [in_strs]
    exact h
theorem in_ints (w : Int) (ws : List Int) : ((ws.map PyData.int).any fun z => PyData.eqv z (.int w)) = ws.contains w := by
  induction ws with
  | nil => rfl
  | cons a r ih =>
    rw [List.map_cons, List.any_cons, ih, List.contains_cons]
    congr 1
    have : PyData.eqv (.int a) (.int w) = decide (a = w) := eqv_int
    rw [this, Bool.eq_iff_iff, decide_eq_true_iff, beq_iff_eq]
    exact eq_comm
theorem rin_intsL {neg : Bool} {w : Int} {ws : List Int} {st : Sto} {Q : Kd} (h : Q (.d (.bool (neg != ws.contains w))) st) : rInV neg (.d (.int w)) (.d (.list (ws.map PyData.int))) st Q := by
  refine ⟨ws.map PyData.int, rfl, .inl ⟨rfl, ?_⟩, ?_⟩
  · rw [List.all_map]
    exact List.all_eq_true.mpr fun _ _ => rfl
  · rw [in_ints]
    exact h
end DL
namespace DG
open PySem PySem.Spec PyProof.Rows L2
/-! ### the context of a generator expression's frame -/
def gEnv (X : Cx) (scope : Scope) (C : Addr) (code : Value) : Env := genEnv scope (cloFrom X.env.cells scope.names []) C code builtinsNs X.env
def gx (X : Cx) (N : List Str) (scope : Scope) (C : Addr) (code : Value) (fp : List Addr) (s : Shared) (H : Hp) : Cx :=
  { X with A := X.A.in1.in1.deeper (gEnv X scope C code), N := N, s_0 := s, H_0 := H, env := gEnv X scope C code, outer := X.stack, stack := gEnv X scope C code :: X.stack, ex := fp, fn := fun _ => false, calm := true, pn := [], xe := fun _ _ => False }
/-- the scope of the expression: its one name x, the walked thing at .0, names of the def at these slots -/
structure GSc (X : Cx) (scope : Scope) (x : Str) (fvs : List (Str × Nat)) : Prop where
  kind : scope.kind = .function
  co : scope.isCoroutine = false
  cell : ∀ y ∈ scope.names, y.2 ≠ .cell
  dot : scope.names.lookup (".0" : Str) = some NameKind.local
  loc : scope.names.lookup x = some .local
  free : ∀ y ∈ scope.names, y.2 = .free → X.env.kindOf y.1 = some .cell ∨ X.env.kindOf y.1 = some .free
  fv : ∀ p ∈ fvs, scope.names.lookup p.1 = some .free ∧ X.N[p.2]? = some p.1
def gN (x : Str) (fvs : List (Str × Nat)) : List Str := x :: fvs.map (·.1)
def gσ (σ : L2.St) (fvs : List (Str × Nat)) (o : Option V) : L2.St := o :: fvs.map fun p => (σ[p.2]?).getD none
section
variable {X : Cx} {pins : List (Addr × Obj)} {σ : L2.St} {H : Hp} {s : Shared} {scope : Scope} {x : Str} {fvs : List (Str × Nat)} {fp : List Addr} {code : Value}
theorem hasCell (I : Inv X pins σ H s) (S : GSc X scope x fvs) : ∀ y ∈ scope.names, y.2 = .free → ∃ c, X.env.cells.lookup y.1 = some c := fun y hy e => I.ok.has _ (S.free y hy e)
theorem clo_in (I : Inv X pins σ H s) (S : GSc X scope x fvs) {y : Str} {c : Addr} (h : (y, c) ∈ cloFrom X.env.cells scope.names []) : X.env.cells.lookup y = some c := by
  rcases cloFrom_mem h with h | ⟨h1, rfl⟩
  · cases h
  · obtain ⟨c, hc⟩ := hasCell I S _ h1 rfl
    rw [hc]
    rfl
theorem clo_look (I : Inv X pins σ H s) (S : GSc X scope x fvs) {y : Str} (hl : scope.names.lookup y = some .free) : ∃ c, (cloFrom X.env.cells scope.names []).lookup y = some c ∧ X.env.cells.lookup y = some c := by
  obtain ⟨c, e⟩ := mem_lookup (cloFrom_has (cells := X.env.cells) (acc := []) (PySem.mem_of_lookup hl))
  exact ⟨c, e, clo_in I S (PySem.mem_of_lookup e)⟩
theorem gx_ok {k : Nat} (I : Inv X pins σ H s) (hr : Room k X.A) (S : GSc X scope x fvs) (hfp : ∀ b ∈ fp, FpOk X pins H b ∧ b < s.heap.objs.size) : (gx X (gN x fvs) scope s.heap.objs.size code fp s H).Ok where
  mod := I.ok.mod
  kind := S.kind
  glob := I.ok.glob
  blt := rfl
  above := Nat.le_refl _
  inj := fun y z c a b => I.ok.inj y z c (clo_in I S (PySem.mem_of_lookup a)) (clo_in I S (PySem.mem_of_lookup b))
  has := fun y hy => by
    have key : scope.names.lookup y = some .cell ∨ scope.names.lookup y = some .free := hy
    rcases key with q | q
    · exact absurd rfl (S.cell _ (PySem.mem_of_lookup q))
    · obtain ⟨c, e, _⟩ := clo_look I S q
      exact ⟨c, e⟩
  cab := fun y c z => by cases z
  hd := fun _ => hr.hd
  frames := by
    show pushEnvs [_] X.A.frames = _
    rw [I.ok.frames]
    rfl
  stk := .inr ⟨rfl, rfl⟩
  exf := fun b hb => ⟨Nat.ne_of_lt (hfp b hb).2, fun y c e => (hfp b hb).1.2.2.2.2.1 y c (clo_in I S (PySem.mem_of_lookup e))⟩
  bs := I.bs
  bsz := Nat.le_trans I.ok.bsz I.sz
  noex := fun b o e hb => by
    rcases (hfp b hb).1.2.2.2.1 with z | z
    · exact I.ok.noex b o e z
    · exact absurd (Nat.lt_of_lt_of_le (Heap.lt_size (I.ok.bs b o e).1) z) (Nat.lt_irrefl _)
  exfs := fun b hb z => by
    rcases List.mem_cons.mp (I.stkSub b z) with e | e
    · exact (hfp b hb).1.2.1 e
    · exact (hfp b hb).1.2.2.1 e
  funs := I.stack
  frf := I.stkFree
end
end DG
namespace DG
open PySem PySem.Spec PyProof.Rows L2
section
variable {X : Cx} {pins : List (Addr × Obj)} {σ : L2.St} {H : Hp} {s : Shared} {scope : Scope} {x : Str} {fvs : List (Str × Nat)} {fp : List Addr} {code : Value}
theorem gσ_at {o : Option V} {i : Nat} {v : V} (h : (gσ σ fvs o)[i + 1]? = some (some v)) : ∃ p, fvs[i]? = some p ∧ σ[p.2]? = some (some v) := by
  unfold gσ at h
  rw [List.getElem?_cons_succ, List.getElem?_map] at h
  cases q : fvs[i]? with
  | none =>
    rw [q] at h
    cases h
  | some p =>
    rw [q] at h
    have h' : (σ[p.2]?).getD none = some v := Option.some.inj h
    refine ⟨p, rfl, ?_⟩
    cases z : σ[p.2]? with
    | none =>
      rw [z] at h'
      cases h'
    | some w =>
      rw [z] at h'
      have e : w = some v := h'
      rw [e]
/-- the generator has just been made -/
theorem gen_start {k : Nat} {it : Value} {fo go : Obj} {h' : Heap} {G : Array GenState} {T : Nat} (I : Inv X pins σ H s) (hr : Room k X.A) (S : GSc X scope x fvs) (hfp : ∀ b ∈ fp, FpOk X pins H b ∧ b < s.heap.objs.size)
    (hn : h'.Ns s.heap.objs.size (fun y => if y = ".0" then some it else none)) (hsb : Heap.SameBut s.heap.objs.size (s.heap.push fo) h') (hG : AllBare G) (hgo : ∀ v, go.data ≠ .cell v) (hgf : go.isFreed = false) :
    Inv (gx X (gN x fvs) scope s.heap.objs.size code fp s H) [(h'.objs.size, go)] (gσ σ fvs none) H { s with gens := G, toks := T, heap := h'.push go } := by
  have hsz : h'.objs.size = s.heap.objs.size + 1 := by
    rw [hsb.1, Heap.size_push]
  have k1 : ∀ b o, s.heap.get? b = some o → (h'.push go).get? b = some o := fun b o e => by
    refine Heap.get?_push_of_some _ ((hsb.2 b ?_).trans (Heap.get?_push_of_some _ e))
    exact Nat.ne_of_lt (Heap.lt_size e)
  have hC : H s.heap.objs.size = none := I.hok.fresh (Nat.le_refl _)
  have ha : H h'.objs.size = none := I.hok.fresh (by omega)
  have hns : (h'.push go).Ns s.heap.objs.size (fun y => if y = ".0" then some it else none) := by
    obtain ⟨o, es, ep, ho, r⟩ := hn
    exact ⟨o, es, ep, Heap.get?_push_of_some _ ho, r⟩
  refine ⟨gx_ok I hr S hfp, rfl, hG, Un.kept k1, ⟨_, hns, fun i y v e1 e2 e3 => ?_⟩, fun y c e => ?_, hC, fun y c e => I.freeC y c (clo_in I S (PySem.mem_of_lookup e)), fun p hp => ?_, I.hok.kept k1, by simp [gσ, gN, gx]⟩
  · cases i with
    | zero =>
      cases e2
    | succ i =>
      obtain ⟨p, hp, hv⟩ := gσ_at e2
      have e1' : (fvs.map (·.1))[i]? = some y := e1
      rw [List.getElem?_map, hp] at e1'
      cases e1'
      obtain ⟨f1, f2⟩ := S.fv p (List.mem_of_getElem? hp)
      obtain ⟨c, c1, c2⟩ := clo_look I S f1
      obtain ⟨m, _, hl⟩ := I.loc
      have kd := S.free _ (PySem.mem_of_lookup f1) rfl
      have vis : Vis X.env.scope p.1 := kd.elim (fun q => .inr (.inl q)) fun q => .inr (.inr q)
      obtain ⟨u, ru, lk⟩ := hl p.2 p.1 v f2 hv vis
      refine ⟨u, ru, .inr ⟨.inr f1, c, c1, ?_⟩⟩
      rcases lk with ⟨kl, _⟩ | ⟨_, c', h1, o, ho, hd⟩
      · rcases kd with q | q
        · rw [q] at kl; cases kl
        · rw [q] at kl; cases kl
      · rw [c2] at h1
        cases h1
        exact ⟨o, k1 _ _ ho, hd⟩
  · obtain ⟨v, o, ho, hd⟩ := I.cell y c (clo_in I S (PySem.mem_of_lookup e))
    exact ⟨v, o, k1 _ _ ho, hd⟩
  · have hp' : p = (h'.objs.size, go) := List.mem_singleton.mp hp
    subst hp'
    refine ⟨Heap.get?_push_size _ hgf, ha, ?_, fun z => ?_, hgo⟩
    · show h'.objs.size ≠ s.heap.objs.size
      omega
    · have z' : h'.objs.size ∈ frs X.stack := z
      rcases List.mem_cons.mp (I.stkSub _ z') with q | q
      · have h8 := I.lt
        rw [← q] at h8
        have h9 : (h'.objs.size : Nat) < s.heap.objs.size := h8
        omega
      · exact I.nofs (show s.heap.objs.size ≤ h'.objs.size by omega) q
/-- only what the frames don't hold has changed: the state is as good -/
theorem inv_same {X : Cx} {pins : List (Addr × Obj)} {σ : L2.St} {H : Hp} {s s' : Shared} (I : Inv X pins σ H s) (h1 : s'.heap = s.heap) (h2 : s'.os = s.os) (h3 : AllBare s'.gens) : Inv X pins σ H s' := by
  obtain ⟨hh, g, d, t, o⟩ := s'
  dsimp only at h1 h2 h3
  subst h1 h2
  exact ⟨I.ok, I.os, h3, I.base, I.loc, I.cell, I.free, I.freeC, I.pin, I.hok, I.len⟩
end
end DG
namespace DG
open PySem PySem.Spec PyProof.Rows L2 GenW
theorem over_gen {A : Around} {elt target iter : Expr} {ifs : List Expr} {scope : Scope} {pos : Pos} {it : Value} {env : Env} :
    A.over (.compLoop (.GeneratorExp elt [⟨target, iter, ifs, 0⟩] scope pos) 0 it .none env) [] = A.deeper env := by
  first
    | rfl
    | (obtain ⟨hd, d, fr, gs, u⟩ := A; simp [Around.over, Around.deeper, marksOver, frameCount, unitsOf, envsOf, guardsOf, pushEnvs, pushGuards, Code.envs, Code.env?, Code.isFrame, Code.guards, Code.isGuard, Code.weight, Code.frames, Code.isCreation, Code.isCaller, Code.cUnits])
theorem over_gen0 {A : Around} {elt target iter : Expr} {ifs : List Expr} {scope : Scope} {pos : Pos} {it : Value} {env : Env} :
    A.over (.compStart (.GeneratorExp elt [⟨target, iter, ifs, 0⟩] scope pos) 0 it .none env) [] = A.deeper env := by
  first
    | rfl
    | (obtain ⟨hd, d, fr, gs, u⟩ := A; simp [Around.over, Around.deeper, marksOver, frameCount, unitsOf, envsOf, guardsOf, pushEnvs, pushGuards, Code.envs, Code.env?, Code.isFrame, Code.guards, Code.isGuard, Code.weight, Code.frames, Code.isCreation, Code.isCaller, Code.cUnits])
/-- the objects at these places -/
theorem objs_at {h : Heap} : ∀ {fp : List Addr}, (∀ b ∈ fp, ∃ o, h.get? b = some o ∧ ∀ v, o.data ≠ .cell v) → ∃ ob : List (Addr × Obj), (∀ p ∈ ob, p.1 ∈ fp ∧ h.get? p.1 = some p.2 ∧ ∀ v, p.2.data ≠ .cell v) ∧ ∀ b ∈ fp, ∃ o, (b, o) ∈ ob
  | [], _ => ⟨[], ⟨fun p z => absurd z (by simp), fun b z => absurd z (by simp)⟩⟩
  | b :: fp, H => by
    obtain ⟨o, h1, h2⟩ := H b (by simp)
    obtain ⟨ob, q1, q2⟩ := objs_at (fp := fp) fun c hc => H c (List.mem_cons_of_mem _ hc)
    refine ⟨(b, o) :: ob, fun p hp => ?_, fun c hc => ?_⟩
    · rcases List.mem_cons.mp hp with rfl | hp
      · exact ⟨List.mem_cons_self, h1, h2⟩
      · exact ⟨List.mem_cons_of_mem _ (q1 p hp).1, (q1 p hp).2⟩
    · rcases List.mem_cons.mp hc with rfl | hc
      · exact ⟨o, List.mem_cons_self⟩
      · obtain ⟨u, hu⟩ := q2 c hc
        exact ⟨u, List.mem_cons_of_mem _ hu⟩
/-- what is known of the walk: at turn i, with the heap H, it goes on or stops -/
structure GW (J : It) (te : TE) (σ : L2.St) (fvs : List (Str × Nat)) (W : Nat → Hp → Prop) (Qt Qf : Hp → Prop) : Prop where
  turn : ∀ i H, W i H → (J.go i H ∧ i < sizeLine ∧ ∀ v H1, J.yld i H v H1 → te (gσ σ fvs (some v)) H1 fun y H2 => ∃ b, y = .bl b ∧ (b = true → W (i + 1) H2) ∧ (b = false → Qf H2)) ∨ (J.stop i H ∧ Qt H)
/-- where the iterator's objects stand: none of the frame's -/
structure GF (X : Cx) (scope : Scope) (C a : Addr) (fp : List Addr) : Prop where
  loc : ∀ b ∈ fp, b ≠ C
  fs : ∀ b ∈ fp, b ∉ frs X.stack
  cell : ∀ b ∈ fp, ∀ x c, (cloFrom X.env.cells scope.names []).lookup x = some c → c ≠ b
  gen : ∀ b ∈ fp, b ≠ a
section
variable {X : Cx} {scope : Scope} {x : Str} {fvs : List (Str × Nat)} {C a : Addr} {code : Value} {fp : List Addr} {s0 : Shared} {H0 : Hp} {go : Obj} {g : Nat} {σ : L2.St} {it : Addr} {tn : Nat → Heap → Prop} {J : It} {te : TE} {W : Nat → Hp → Prop} {Qt Qf : Hp → Prop}
/-- the generator between two turns -/
structure GI (X : Cx) (scope : Scope) (x : Str) (fvs : List (Str × Nat)) (C a : Addr) (code : Value) (fp : List Addr) (s0 : Shared) (H0 : Hp) (go : Obj) (g : Nat) (σ : L2.St) (tn : Nat → Heap → Prop) (i : Nat) (H : Hp) (s : Shared) : Prop where
  inv : ∃ o, Inv (gx X (gN x fvs) scope C code fp s0 H0) [(a, go)] (gσ σ fvs o) H s
  at_ : tn i s.heap
  no : ∀ b ∈ fp, H b = none
  sz : g < s.gens.size
theorem GI.same {i : Nat} {H : Hp} {s s' : Shared} (I : GI X scope x fvs C a code fp s0 H0 go g σ tn i H s) (h1 : s'.heap = s.heap) (h2 : s'.os = s.os) (h3 : AllBare s'.gens) (h4 : s'.gens.size = s.gens.size) : GI X scope x fvs C a code fp s0 H0 go g σ tn i H s' := by
  obtain ⟨o, q⟩ := I.inv
  exact ⟨⟨o, inv_same q h1 h2 h3⟩, by rw [h1]; exact I.at_, I.no, by rw [h4]; exact I.sz⟩
theorem GI.fps {i : Nat} {H : Hp} {s : Shared} (I : GI X scope x fvs C a code fp s0 H0 go g σ tn i H s) (F : GF X scope C a fp) : ∀ b ∈ fp, FpOk (gx X (gN x fvs) scope C code fp s0 H0) [(a, go)] H b := fun b hb =>
  ⟨I.no b hb, F.loc b hb, F.fs b hb, .inl hb, fun y c e => F.cell b hb y c e, fun p hp => by
    have hp' : p = (a, go) := List.mem_singleton.mp hp
    subst hp'
    exact fun z => F.gen b hb z.symm⟩
/-- with the iterator's objects pinned -/
theorem pin_on {H : Hp} {s : Shared} {σ' : L2.St} (F : GF X scope C a fp) {ob : List (Addr × Obj)} (hob : ∀ p ∈ ob, p.1 ∈ fp ∧ s.heap.get? p.1 = some p.2 ∧ ∀ v, p.2.data ≠ .cell v) (no : ∀ b ∈ fp, H b = none)
    (I : Inv (gx X (gN x fvs) scope C code fp s0 H0) [(a, go)] σ' H s) : Inv (gx X (gN x fvs) scope C code fp s0 H0) ((a, go) :: ob) σ' H s := I.pins_of fun p hp => by
  rcases List.mem_cons.mp hp with rfl | hp
  · exact I.pin _ (List.mem_append_right _ List.mem_cons_self)
  · obtain ⟨h1, h2, h3⟩ := hob p hp
    exact ⟨h2, no _ h1, F.loc _ h1, F.fs _ h1, h3⟩
theorem pin_off {H : Hp} {s : Shared} {σ' : L2.St} {ob : List (Addr × Obj)} (I : Inv (gx X (gN x fvs) scope C code fp s0 H0) ((a, go) :: ob) σ' H s) : Inv (gx X (gN x fvs) scope C code fp s0 H0) [(a, go)] σ' H s := I.pins_of fun p hp =>
  I.pin p (List.mem_append_right _ (by
    rw [List.mem_singleton.mp hp]
    exact List.mem_cons_self))
abbrev gP (X : Cx) (scope : Scope) (x : Str) (fvs : List (Str × Nat)) (C a : Addr) (code : Value) (fp : List Addr) (s0 : Shared) (H0 : Hp) (go : Obj) (g : Nat) (σ : L2.St) (Qt : Hp → Prop) : Nat → Shared → Shared → Prop := fun _ _ s1 => ∃ H o, Inv (gx X (gN x fvs) scope C code fp s0 H0) [(a, go)] (gσ σ fvs o) H s1 ∧ g < s1.gens.size ∧ Qt H
abbrev gY (X : Cx) (scope : Scope) (x : Str) (fvs : List (Str × Nat)) (C a : Addr) (code : Value) (fp : List Addr) (s0 : Shared) (H0 : Hp) (go : Obj) (g : Nat) (σ : L2.St) (tn : Nat → Heap → Prop) (W : Nat → Hp → Prop) (Qf : Hp → Prop) : Protocol := fun n _ v s kap =>
  ∃ i H b, n + 1 + i = sizeLine ∧ v = .bool b ∧ GI X scope x fvs C a code fp s0 H0 go g σ tn (i + 1) H s ∧ (b = true → W (i + 1) H) ∧ (b = false → Qf H) ∧
    ∀ s' : Shared, s'.heap = s.heap → s'.os = s.os → AllBare s'.gens → s'.gens.size = s.gens.size → b = true → kap (.send .none) s'
theorem seg_b {R : GenEnd} {Y : Protocol} {n : Nat} {s₀ s : Shared} {A : Around} {elt target iter : Expr} {ifs : List Expr} {pos : Pos} {itv : Value} {env : Env} {M : Model} {α β : Type} {m : Sem α} {K : α → Sem β} {K' : β → Sem PySem.Fin} {Hx : Value → Sem PySem.Fin} {gd : Bool → Bool} {lv : List Value → List Value}
    (h : wpAny M (A.deeper env) m (fun r s' => Seg M A R Y n s₀ (.compLoop (.GeneratorExp elt [⟨target, iter, ifs, 0⟩] scope pos) 0 itv .none env) ((K r).wrap K' Hx gd lv) [] s') (fun _ _ => False) s) :
    Seg M A R Y n s₀ (.compLoop (.GeneratorExp elt [⟨target, iter, ifs, 0⟩] scope pos) 0 itv .none env) ((m >>= K).wrap K' Hx gd lv) [] s :=
  seg_bind_wrap (by
    rw [over_gen]
    exact wpAny_mono h (fun _ _ q => q) fun _ _ q => q.elim)
theorem seg_turns {elt iter : Expr} {px pos : Pos} (S : GSc X scope x fvs) (hN : (gN x fvs).Nodup) (F : GF X scope C a fp) (hcalm : X.calm = true) (T : Turn X.prog X.w X.K (.Name x px) J fp it tn) (hel : PE (gx X (gN x fvs) scope C code fp s0 H0) elt te) (hw : GW J te σ fvs W Qt Qf) :
    ∀ (n i : Nat) (s₀ s : Shared) (H : Hp), n + i = sizeLine → GI X scope x fvs C a code fp s0 H0 go g σ tn i H s → W i H →
      Seg (model X.prog X.w) X.A.in1.in1 (fun n s₀ r s₁ => r = .ok .next ∧ gP X scope x fvs C a code fp s0 H0 go g σ Qt n s₀ s₁) (gY X scope x fvs C a code fp s0 H0 go g σ tn W Qf) n s₀
        (.compLoop (.GeneratorExp elt [⟨.Name x px, iter, [], 0⟩] scope pos) 0 (.ref it) .none (gEnv X scope C code))
        ((model X.prog X.w).den (.compLoop (.GeneratorExp elt [⟨.Name x px, iter, [], 0⟩] scope pos) 0 (.ref it) .none (gEnv X scope C code))) [] s := by
  have stop : ∀ (n i : Nat) (s₀ s : Shared) (H : Hp), GI X scope x fvs C a code fp s0 H0 go g σ tn i H s → J.stop i H → Qt H →
      Seg (model X.prog X.w) X.A.in1.in1 (fun n s₀ r s₁ => r = .ok .next ∧ gP X scope x fvs C a code fp s0 H0 go g σ Qt n s₀ s₁) (gY X scope x fvs C a code fp s0 H0 go g σ tn W Qf) n s₀
        (.compLoop (.GeneratorExp elt [⟨.Name x px, iter, [], 0⟩] scope pos) 0 (.ref it) .none (gEnv X scope C code))
        ((model X.prog X.w).den (.compLoop (.GeneratorExp elt [⟨.Name x px, iter, [], 0⟩] scope pos) 0 (.ref it) .none (gEnv X scope C code))) [] s := by
    intro n i s₀ s H I hs q
    obtain ⟨o, J0⟩ := I.inv
    show Seg _ _ _ _ n s₀ _ ((compTurn (.GeneratorExp elt [⟨.Name x px, iter, [], 0⟩] scope pos) 0 (.ref it) .none (gEnv X scope C code)).onRaise (leaving (gEnv X scope C code))) [] s
    rw [compTurn_gen, Sem.onRaise_eq_wrap]
    refine seg_b (wpAny_standAt (seg_b (wpAny_gsz (n := g + 1) I.sz (wpAny_mono (T.done (gx X (gN x fvs) scope C code fp s0 H0) rfl rfl rfl rfl i [(a, go)] s _ H (fun _ _ => False) J0 (I.fps F) I.at_ hs) (fun r s1 hr hz => ?_) fun _ _ z => z.elim))))
    obtain ⟨rfl, J1⟩ := hr
    exact seg_end (.ok .next) ⟨rfl, H, o, J1, hz, q⟩
  intro n
  induction n with
  | zero =>
    intro i s₀ s H hn I w
    rcases hw.turn i H w with ⟨_, hlt, _⟩ | ⟨hs, q⟩
    · omega
    · exact stop 0 i s₀ s H I hs q
  | succ n ih =>
    intro i s₀ s H hn I w
    rcases hw.turn i H w with ⟨hgo, hlt, hy⟩ | ⟨hs, q⟩
    · obtain ⟨o, J0⟩ := I.inv
      show Seg _ _ _ _ (n + 1) s₀ _ ((compTurn (.GeneratorExp elt [⟨.Name x px, iter, [], 0⟩] scope pos) 0 (.ref it) .none (gEnv X scope C code)).onRaise (leaving (gEnv X scope C code))) [] s
      rw [compTurn_gen, Sem.onRaise_eq_wrap]
      refine seg_b (wpAny_standAt (seg_b (wpAny_gsz (n := g + 1) I.sz (wpAny_mono (T.item (gx X (gN x fvs) scope C code fp s0 H0) rfl rfl rfl rfl i [(a, go)] s _ H (fun _ _ => False) J0 (I.fps F) I.at_ hgo) (fun r s1 hr hz1 => ?_) fun _ _ z => z.elim))))
      obtain ⟨u, rfl, hr⟩ := hr
      refine seg_b (wpAny_gsz (n := g + 1) hz1 (wpAny_mono hr (fun r2 s2 hr2 hz2 => ?_) fun _ _ z => z.elim))
      obtain ⟨v, H1, J1, rv, hyl, tn1, no1⟩ := hr2
      obtain ⟨ob, hob1, hob2⟩ := objs_at (T.obj _ _ tn1)
      have J2 := pin_on F hob1 no1 J1
      have hpg := (pg_name (pos := px) (X := gx X (gN x fvs) scope C code fp s0 H0) (i := 0) (x := x) hN rfl (.inl S.loc) (.inr S.loc)).run ((a, go) :: ob) s2 _ H1 v u (fun σ' H' => σ' = gσ σ fvs (some v) ∧ H' = H1) J2 rv ⟨rfl, rfl⟩
      refine seg_b (wpAny_gsz (n := g + 1) hz2 (wpAny_mono hpg (fun _ s3 hr3 hz3 => ?_) fun _ _ z => z.elim))
      obtain ⟨σ', H', J3, rfl, rfl⟩ := hr3
      refine seg_b (wpAny_pure ?_)
      rw [if_pos rfl]
      have hyo : ∀ v, yieldOut (gEnv X scope C code) v = yieldValue v := fun v => by
        show (if scope.isCoroutine = true then _ else _) = _
        rw [S.co, if_neg Bool.false_ne_true]
      simp only [hyo]
      rw [Sem.bind_eq_wrap', Sem.bind_eq_wrap', Sem.wrap_wrap, Sem.wrap_wrap]
      refine seg_wrap ?_
      rw [over_gen]
      refine wpAny_gsz (n := g + 1) hz3 (wpAny_mono (hel.run ((a, go) :: ob) s3 _ _ _ J3 (hy v _ hyl)) (fun y s4 hr4 hz4 => ?_) fun _ _ z => z.elim)
      obtain ⟨y', H2, J4, ry, b, rfl, q1, q2⟩ := hr4
      have ey : y = .bool b := ry
      subst ey
      have keep : ∀ c ∈ fp, ∀ o, s2.heap.get? c = some o → s4.heap.get? c = some o := fun c hc o1 e => by
        obtain ⟨o', ho'⟩ := hob2 c hc
        have e2 : s2.heap.get? c = some o' := (hob1 _ ho').2.1
        have e3 : o' = o1 := Option.some.inj (e2.symm.trans e)
        rw [← e3]
        exact (J4.pin (c, o') (List.mem_append_right _ (List.mem_cons_of_mem _ ho'))).1
      have no4 : ∀ c ∈ fp, H2 c = none := fun c hc => by
        obtain ⟨o', ho'⟩ := hob2 c hc
        exact (J4.pin (c, o') (List.mem_append_right _ (List.mem_cons_of_mem _ ho'))).2.1
      have I4 : GI X scope x fvs C a code fp s0 H0 go g σ tn (i + 1) H2 s4 := ⟨⟨_, pin_off J4⟩, T.keep _ _ _ tn1 keep, no4, hz4⟩
      refine seg_at (seg_yield rfl rfl rfl ⟨i, H2, b, hn, rfl, I4, q1, q2, fun s' h1 h2 h3 h4 hb => ?_⟩)
      exact seg_again rfl (ih (i + 1) s' s' H2 (by omega) (I4.same h1 h2 h3 h4) (q1 hb))
    · exact stop (n + 1) i s₀ s H I hs q
end
end DG
namespace DG
open PySem PySem.Spec PyProof.Rows L2 GenW
section
variable {X : Cx} {scope : Scope} {x : Str} {fvs : List (Str × Nat)} {C a : Addr} {code : Value} {fp : List Addr} {s0 : Shared} {H0 : Hp} {go : Obj} {g : Nat} {σ : L2.St} {it : Addr} {tn : Nat → Heap → Prop} {J : It} {te : TE} {W : Nat → Hp → Prop} {Qt Qf : Hp → Prop}
theorem seg_start {elt iter : Expr} {px pos : Pos} {s₀ s : Shared} {H : Hp} (S : GSc X scope x fvs) (hN : (gN x fvs).Nodup) (F : GF X scope C a fp) (hcalm : X.calm = true) (T : Turn X.prog X.w X.K (.Name x px) J fp it tn) (hel : PE (gx X (gN x fvs) scope C code fp s0 H0) elt te) (hw : GW J te σ fvs W Qt Qf)
    (I : GI X scope x fvs C a code fp s0 H0 go g σ tn 0 H s) (w : W 0 H) :
    Seg (model X.prog X.w) X.A.in1.in1 (fun n s₀ r s₁ => r = .ok .next ∧ gP X scope x fvs C a code fp s0 H0 go g σ Qt n s₀ s₁) (gY X scope x fvs C a code fp s0 H0 go g σ tn W Qf) sizeLine s₀
        (.compStart (.GeneratorExp elt [⟨.Name x px, iter, [], 0⟩] scope pos) 0 (.ref it) .none (gEnv X scope C code))
        ((model X.prog X.w).den (.compStart (.GeneratorExp elt [⟨.Name x px, iter, [], 0⟩] scope pos) 0 (.ref it) .none (gEnv X scope C code))) [] s := by
  have lp := seg_turns (iter := iter) (pos := pos) S hN F hcalm T hel hw sizeLine 0 s₀ s H (Nat.add_zero _) I w
  show Seg _ _ _ _ _ s₀ _ ((compStart (.GeneratorExp elt [⟨.Name x px, iter, [], 0⟩] scope pos) 0 (.ref it) .none (gEnv X scope C code)).onRaise (leaving (gEnv X scope C code))) [] s
  rw [Sem.onRaise_eq_wrap]
  unfold compStart
  show Seg _ _ _ _ _ s₀ _ ((ask >>= _).wrap _ _ _ _) [] s
  refine seg_bind_wrap (wpAny_askSetting ?_)
  split
  · exact seg_again rfl lp
  · refine seg_bind_wrap (wpAny_rule ?_)
    show Seg _ _ _ _ _ s₀ _ ((standAt iter.pos >>= _).wrap _ _ _ _) [] s
    exact seg_bind_wrap (wpAny_standAt (seg_bind_wrap (T.self _ 0 s _ _ I.at_ (seg_again rfl lp))))
/-- what all tells at last -/
def gEnd (X : Cx) (scope : Scope) (x : Str) (fvs : List (Str × Nat)) (C a : Addr) (code : Value) (fp : List Addr) (s0 : Shared) (H0 : Hp) (go : Obj) (σ : L2.St) (Q : Bool → Hp → Prop) (r : Result) (s' : Shared) : Prop :=
  ∃ b H o, r = .ok (.ret (.bool b)) ∧ Inv (gx X (gN x fvs) scope C code fp s0 H0) [(a, go)] (gσ σ fvs o) H s' ∧ Q b H
theorem all_turns {k : Nat} (hr : Room (k + 1) X.A) (hgo : go.cls = .type "generator") (hgd : ∃ nm qn, go.data = .fields #[.int g 0, nm, qn] ∧ go.slots = #[]) (Q : Bool → Hp → Prop) (hQt : ∀ H, Qt H → Q true H) (hQf : ∀ H, Qf H → Q false H) :
    ∀ (n : Nat) (s : Shared) (gs : GenState) (H : Hp) (o : Option V), Inv (gx X (gN x fvs) scope C code fp s0 H0) [(a, go)] (gσ σ fvs o) H s → s.gens[g]? = some gs →
      gs.Goes (model X.prog X.w) X.A.in1.in1 (fun n s₀ r s₁ => r = .ok .next ∧ gP X scope x fvs C a code fp s0 H0 go g σ Qt n s₀ s₁) (gY X scope x fvs C a code fp s0 H0 go g σ tn W Qf) n (.send .none) (s.setGen g .running) →
      codeAny (model X.prog X.w) X.A (.builtin "all.loop" ⟨[.ref a], []⟩) (gEnd X scope x fvs C a code fp s0 H0 go σ Q) s := by
  have hd : X.A.handled = none := hr.hd
  have hroom : X.A.depth < recursionLimit := hr.depth
  have turn : ∀ (n : Nat) (s : Shared) (gs : GenState) (H : Hp) (o : Option V), Inv (gx X (gN x fvs) scope C code fp s0 H0) [(a, go)] (gσ σ fvs o) H s → s.gens[g]? = some gs →
      gs.Goes (model X.prog X.w) X.A.in1.in1 (fun n s₀ r s₁ => r = .ok .next ∧ gP X scope x fvs C a code fp s0 H0 go g σ Qt n s₀ s₁) (gY X scope x fvs C a code fp s0 H0 go g σ tn W Qf) n (.send .none) (s.setGen g .running) →
      (∀ m, n = m + 1 → ∀ (s : Shared) (gs : GenState) (H : Hp) (o : Option V), Inv (gx X (gN x fvs) scope C code fp s0 H0) [(a, go)] (gσ σ fvs o) H s → s.gens[g]? = some gs →
        gs.Goes (model X.prog X.w) X.A.in1.in1 (fun n s₀ r s₁ => r = .ok .next ∧ gP X scope x fvs C a code fp s0 H0 go g σ Qt n s₀ s₁) (gY X scope x fvs C a code fp s0 H0 go g σ tn W Qf) m (.send .none) (s.setGen g .running) →
        codeAny (model X.prog X.w) X.A (.builtin "all.loop" ⟨[.ref a], []⟩) (gEnd X scope x fvs C a code fp s0 H0 go σ Q) s) →
      codeAny (model X.prog X.w) X.A (.builtin "all.loop" ⟨[.ref a], []⟩) (gEnd X scope x fvs C a code fp s0 H0 go σ Q) s := by
    intro n s gs H o I hg hgs ih
    obtain ⟨nm, qn, hdata⟩ := hgd
    have hobj := (I.pin (a, go) (List.mem_append_right _ List.mem_cons_self)).1
    have isg : s.heap.IsGen a g := ⟨go, nm, qn, hobj, hgo, hdata⟩
    refine codeAny_builtin F.entry_all_loop ?_
    rw [Around.under_plainId F.plain_all_loop _]
    show wpAny _ X.A.in1 (pyNext (.ref a) >>= _) _ _ s
    refine wpAny_bind (wpAny_pyNext_genexpQ (A := X.A.in1) (P := gP X scope x fvs C a code fp s0 H0 go g σ Qt) hd I.nolimit hroom isg hg hgs (fun v s1 gs' hb hy => ?_) (fun s1 hp h' hk => ?_))
    · obtain ⟨i, H2, b, hn, rfl, I4, q1, q2, kap⟩ := hy
      have I5 : GI X scope x fvs C a code fp s0 H0 go g σ tn (i + 1) H2 (s1.setGen g gs') := I4.same rfl rfl (allBare_setGen (let ⟨_, z⟩ := I4.inv; z.bare) hb) (setGen_size ..)
      obtain ⟨o2, J⟩ := I5.inv
      refine wpAny_bind (wpAny_holding (wpAny_truthy_bool (wpAny_bind (wpAny_letGo ?_))))
      cases b with
      | true =>
        rw [if_pos rfl]
        cases n with
        | zero => exact absurd (kap s1 rfl rfl (let ⟨_, z⟩ := I4.inv; z.bare) rfl rfl) id
        | succ m =>
          refine wpAny_pure ⟨plainId_quiet F.plain_all_loop _, ih m rfl _ gs' H2 o2 J (setGen_at (by rw [show (s1.gens.size) = s1.gens.size from rfl]; exact I4.sz)) ?_⟩
          exact kap _ rfl rfl (allBare_setGen (x := .running) J.bare rfl) ((setGen_size ..).trans (setGen_size ..)) rfl
      | false =>
        rw [if_neg Bool.false_ne_true]
        exact wpAny_bind (wpAny_rule (wpAny_pure ⟨false, H2, o2, rfl, J, hQf _ (q2 rfl)⟩))
    · obtain ⟨H2, o2, J, hz, q⟩ := hp
      have J1 : Inv (gx X (gN x fvs) scope C code fp s0 H0) [(a, go)] (gσ σ fvs o2) H2 { s1.setGen g .finished with heap := h' } := inv_same (J.kept (t' := s1.toks) hk) rfl rfl (allBare_setGen (x := .finished) J.bare rfl)
      exact wpAny_bind (wpAny_rule (wpAny_pure ⟨true, H2, o2, rfl, J1, hQt _ q⟩))
  intro n
  induction n with
  | zero =>
    intro s gs H o I hg hgs
    exact turn 0 s gs H o I hg hgs fun m e => nomatch e
  | succ n ih =>
    intro s gs H o I hg hgs
    exact turn (n + 1) s gs H o I hg hgs fun m e => by
      cases e
      exact ih
end
end DG
namespace DG
open PySem PySem.Spec PyProof.Rows L2 GenW
/-- all(elt for x in iter): what is walked, then at each turn the element -/
def tAllG (P : Addr) (ti : TI) (te : TE) (fvs : List (Str × Nat)) : TE := fun σ H Q => ti σ H fun J H1 => GxR.TabG H1 P ∧ ∀ H2, GxR.Tabbed P H1 H2 → ∃ W : Nat → Hp → Prop, W 0 H2 ∧ GW J te σ fvs W (Q (.bl true)) (Q (.bl false))
section
variable {X : Cx} {scope : Scope} {x : Str} {fvs : List (Str × Nat)} {te : TE} {ti : TI} {c P : Addr} {k : Nat}
theorem gen_back {pins pg : List (Addr × Obj)} {σ τ : L2.St} {H H' : Hp} {s s' : Shared} {N : List Str} {C : Addr} {code : Value} {fp : List Addr} (I : Inv X pins σ H s) (hfp : ∀ b ∈ fp, FpOk X pins H b) (J : Inv (gx X N scope C code fp s H) pg τ H' s') : Inv X pins σ H' s' := by
  have K := I.call (h' := s'.heap) (g' := s'.gens) (t' := s'.toks) (d' := s'.drawn) (ch := fp) J.base J.hok J.bare fun b hb => ⟨(hfp b hb).2.2.2.1, (hfp b hb).2.1, (hfp b hb).2.2.2.2.1, (hfp b hb).2.2.2.2.2⟩
  rw [GxR.sh_eta s s' J.os] at K
  exact K
/-- the generator is made, all walks it -/
theorem walk_made {pins : List (Addr × Obj)} {σ : L2.St} {H : Hp} {s : Shared} {J : It} {W : Nat → Hp → Prop} {it : Addr} {tn : Nat → Heap → Prop} {fp : List Addr} {elt iter : Expr} {px gpos : Pos} {code : Value} {h' : Heap} {T : Nat} {qn : Str} {Q : VK} {fo : Obj}
    (hr : Room (k + 1) X.A) (hcalm : X.calm = true) (S : GSc X scope x fvs) (hN : (gN x fvs).Nodup) (hel : ∀ C code fp s H, PE (gx X (gN x fvs) scope C code fp s H) elt te) (I : Inv X pins σ H s) (Tn : Turn X.prog X.w X.K (.Name x px) J fp it tn) (h0 : tn 0 s.heap) (hfp : ∀ b ∈ fp, FpOk X pins H b)
    (w0 : W 0 H) (hw : GW J te σ fvs W (Q (.bl true)) (Q (.bl false))) (hn : h'.Ns s.heap.objs.size (fun y => if y = ".0" then some (.ref it) else none)) (hsb : Heap.SameBut s.heap.objs.size (s.heap.push fo) h') :
    wpAny (model X.prog X.w) X.A (call (.builtin "all") [.ref h'.objs.size]) (EP X pins σ Q) X.xe
      { s with
        gens := s.gens.push (.fresh (.compStart (.GeneratorExp elt [⟨.Name x px, iter, [], 0⟩] scope gpos) 0 (.ref it) .none (gEnv X scope s.heap.objs.size code)))
        toks := T
        heap := h'.push { cls := .type "generator", data := .fields #[.int s.gens.size 0, .str "<genexpr>" (s.toks + 1), .str qn (s.toks + 1 + 1)] } } := by
  generalize hgo : ({ cls := .type "generator", data := .fields #[.int s.gens.size 0, .str "<genexpr>" (s.toks + 1), .str qn (s.toks + 1 + 1)] } : Obj) = go
  have hsz : h'.objs.size = s.heap.objs.size + 1 := by
    rw [hsb.1, Heap.size_push]
  have lt : ∀ b ∈ fp, b < s.heap.objs.size := fun b hb => by
    obtain ⟨o, ho, _⟩ := Tn.obj _ _ h0 b hb
    exact Heap.lt_size ho
  have hG : AllBare (s.gens.push (.fresh (.compStart (.GeneratorExp elt [⟨.Name x px, iter, [], 0⟩] scope gpos) 0 (.ref it) .none (gEnv X scope s.heap.objs.size code)))) := I.bare.push rfl
  have J0 := gen_start (code := code) (G := s.gens.push (.fresh (.compStart (.GeneratorExp elt [⟨.Name x px, iter, [], 0⟩] scope gpos) 0 (.ref it) .none (gEnv X scope s.heap.objs.size code)))) (T := T) (go := go) I hr S (fun b hb => ⟨hfp b hb, lt b hb⟩) hn hsb hG (by rw [← hgo]; exact fun v z => nomatch z) (by rw [← hgo]; rfl)
  have FF : GF X scope s.heap.objs.size h'.objs.size fp := ⟨fun b hb => Nat.ne_of_lt (lt b hb), fun b hb z => by
      rcases List.mem_cons.mp (I.stkSub b z) with e | e
      · exact (hfp b hb).2.1 e
      · exact (hfp b hb).2.2.1 e, fun b hb y c e => (hfp b hb).2.2.2.2.1 y c (clo_in I S (PySem.mem_of_lookup e)), fun b hb => by
      refine Nat.ne_of_lt ?_
      rw [hsz]
      exact Nat.lt_succ_of_lt (lt b hb)⟩
  have kp : ∀ b o, s.heap.get? b = some o → (h'.push go).get? b = some o := fun b o e => Heap.get?_push_of_some _ ((hsb.2 b (Nat.ne_of_lt (Heap.lt_size e))).trans (Heap.get?_push_of_some _ e))
  have I0 : GI X scope x fvs s.heap.objs.size h'.objs.size code fp s H go s.gens.size σ tn 0 H { s with gens := s.gens.push (.fresh (.compStart (.GeneratorExp elt [⟨.Name x px, iter, [], 0⟩] scope gpos) 0 (.ref it) .none (gEnv X scope s.heap.objs.size code))), toks := T, heap := h'.push go } :=
    ⟨⟨none, J0⟩, Tn.keep _ _ _ h0 fun b _ o e => kp b o e, fun b hb => (hfp b hb).1, by simp⟩
  have isg : (h'.push go).IsGen h'.objs.size s.gens.size := ⟨go, _, _, Heap.get?_push_size _ (by rw [← hgo]; rfl), by rw [← hgo], by rw [← hgo], by rw [← hgo]⟩
  refine call_function_tree F.kind_all F.plain_all F.entry_all (F.args_all1 _) ?_
  unfold Builtin.«all»
  refine wpAny_bind (m := oneArg "all" _) (wpAny_pure (wpAny_bind (wpAny_pyIter_gen isg ?_)))
  refine wpAny_pure ⟨plainId_quiet F.plain_all_loop _, codeAny_mono (all_turns (k := k) (tn := tn) (W := W) (Qt := Q (.bl true)) (Qf := Q (.bl false)) hr (by rw [← hgo]) (by rw [← hgo]; exact ⟨_, _, rfl, rfl⟩) (fun b H => Q (.bl b) H) (fun _ q => q) (fun _ q => q) sizeLine _ _ H none J0 (Array.getElem?_push_size ..) ?_) fun r s' hq => ?_⟩
  · exact ⟨rfl, seg_start S hN FF hcalm Tn (hel _ _ _ _ _) hw (I0.same rfl rfl (allBare_setGen (x := .running) hG rfl) (setGen_size ..)) w0⟩
  · obtain ⟨b, H2, o2, rfl, J, q⟩ := hq
    exact ⟨.bl b, H2, gen_back I hfp J, rfl, q⟩
theorem pe_all {elt iter : Expr} {px p gpos pos : Pos} (hr : Room (k + 1) X.A) (hcalm : X.calm = true) (hg : Gl X "all") (hm : X.mg "all" = none) (hb : bootBuiltins "all" = some (.builtin "all")) (TB : GxR.TabB X.base X.mg c P) (hcode : X.env.code = .ref c) (S : GSc X scope x fvs) (hN : (gN x fvs).Nodup)
    (hi : PI X (.Name x px) iter ti) (hel : ∀ C code fp s H, PE (gx X (gN x fvs) scope C code fp s H) elt te) (hs : ∀ v, genFold iter X.env v = pure v)
    (he : starEach [.GeneratorExp elt [⟨.Name x px, iter, [], 0⟩] scope gpos] X.env = (false, eval (.GeneratorExp elt [⟨.Name x px, iter, [], 0⟩] scope gpos) X.env) :: starEach [] X.env := by rfl) :
    PE X (.Call (.Name "all" p) [.GeneratorExp elt [⟨.Name x px, iter, [], 0⟩] scope gpos] [] pos) (tAllG P ti te fvs) := by
  refine ⟨fun pins s σ H Q I h => wpAny_Call_Name_kw (ld_blt I hg hm hb (PyProof.Rows.callWith_builtin1 ?_ he (by rfl)))⟩
  rw [he]
  refine Calls.spliced_cons (wpAny_GeneratorExp_make S.co (closure_ok (hasCell I S)) S.cell S.dot S.kind hr.depth (wpAny_mono (hi.run pins s σ H _ I h) (fun xv s1 h1 => wpAny_mono h1 (fun itv s2 h2 => ?_) fun _ _ q => q) fun _ _ q => q) hs)
  obtain ⟨it, fp, tn, J, H1, rfl, I2, Tn, h0, hfp, ⟨ps, hP, ht⟩, q⟩ := h2
  refine ⟨I2.nolimit, ?_⟩
  have hPs : s2.heap.get? P = some { cls := .none, data := .fields ps } := I2.hok P _ hP
  -- behind the code object
  have cont : ∀ (cv : Value) (s3 : Shared) (H2 : Hp), GxR.Tabbed P H1 H2 → Inv X pins σ H2 s3 → tn 0 s3.heap → (∀ b ∈ fp, FpOk X pins H2 b) →
      wpAny (model X.prog X.w) X.A (builtinsFor X.env.globals X.env.builtins) (fun bi s₄ => ∀ h', h'.Ns s₄.heap.objs.size (fun y => if y = ".0" then some (.ref it) else none) → Heap.SameBut s₄.heap.objs.size (s₄.heap.push { cls := .type "frame", data := .dict #[] }) h' →
        wpAny (model X.prog X.w) X.A (spliced (backTo pos (starEach [] X.env))) (fun vs s₂ => wpAny (model X.prog X.w) X.A (call (.builtin "all") (.ref h'.objs.size :: vs)) (EP X pins σ Q) X.xe s₂) X.xe
          { s₄ with
            gens := s₄.gens.push (.fresh (.compStart (.GeneratorExp elt [⟨.Name x px, iter, [], 0⟩] scope gpos) 0 (.ref it) .none (genEnv scope (cloFrom X.env.cells scope.names []) s₄.heap.objs.size cv bi X.env)))
            toks := s₄.toks + 1 + 1 + 1
            heap := h'.push { cls := .type "generator", data := .fields #[.int s₄.gens.size 0, .str "<genexpr>" (s₄.toks + 1), .str (X.env.qual ++ "<genexpr>") (s₄.toks + 1 + 1)] } }) X.xe s3 := by
    intro cv s3 H2 hT I3 h03 hfp3
    obtain ⟨W, w0, hw⟩ := q H2 hT
    obtain ⟨bm, ob, e1, e2, e3, e4, e5, e6, e7, e8⟩ := TB.bm
    refine wpAny_builtinsFor (m := X.mg) (by rw [I3.ok.glob]; exact I3.mod.glob.keeps I3.bk) e1 e2 (I3.bk _ _ e5) e6 e7 e8 fun h' hn hsb => ?_
    exact Calls.spliced_nil (walk_made hr hcalm S hN hel I3 Tn h03 hfp3 w0 hw hn hsb)
  have cd : PySem.W.CodeHd s2.heap c P := TB.code.keeps I2.bk
  have neP : ∀ b ∈ fp, b ≠ P := fun b hb z => by
    have := (hfp b hb).1
    rw [z, hP] at this
    cases this
  cases hf : codeAmong gpos ps.toList with
  | some cv => exact wpAny_genexprCode_hit hcode (cd.code hPs ht) hf (cont cv s2 H1 ⟨⟨ps, hP, ht⟩, fun _ _ => rfl⟩ I2 h0 hfp)
  | none =>
    refine wpAny_genexprCodeX hcode (cd.code hPs ht) (cd.tab hPs) hf fun c' h3 tk hx hge hlt hco' _ htab' _ => ?_
    obtain ⟨o1, vs, f1, tf, fl, tg, inF, tx, tt, op, _, _, _, _, _, _, _, _, _, htr, _⟩ := hco'
    refine cont (.ref c') _ _ ⟨⟨_, upd_same, htr⟩, fun b hb => upd_ne hb⟩ (GxR.inv_tab (d' := s2.drawn) (g' := s2.gens) (t' := tk) I2 hP (fun b o hb e => hx b o hb e) htab'.2 I2.bare) (Tn.keep _ _ _ h0 fun b hb o e => hx b o (neP b hb) e) fun b hb => ?_
    obtain ⟨f1, f2⟩ := hfp b hb
    exact ⟨by rw [upd_ne (neP b hb)]; exact f1, f2⟩
end
end DG
namespace DL
open PySem PySem.Spec PyProof.Rows L2 DG
variable [Tabs]
/-! ### all(elt for x in iter) -/
def gE (e : Ed) (fvs : List (Str × Nat)) (d : D) : Ed := some d :: fvs.map fun p => (e[p.2]?).getD none
def dAllG (ti : TId) (fvs : List (Str × Nat)) (te : TEd) : TEd := fun e st Q => ti e st fun it st1 => it.xs.length < sizeLine ∧ ∃ W : Nat → Sto → Prop, W 0 st1 ∧ ∀ i st2, W i st2 → it.at st2 ∧ (it.xs.length ≤ i → Q (.d (.bool true)) st2) ∧
  ∀ d, it.xs[i]? = some d → te (gE e fvs d) st2 (asB fun b st3 => if b = true then W (i + 1) st3 else Q (.d (.bool false)) st3)
theorem re_gen {K : PySem.W.Frag} {st : Sto} {H : Hp} {σ : L2.St} {e : Ed} (re : RE K st H σ e) {v : V} {d : D} (r : DvD K st H v d) (fvs : List (Str × Nat)) : RE K st H (gσ σ fvs (some v)) (gE e fvs d) := by
  refine ⟨by simp [gσ, gE], fun i x h => ?_⟩
  cases i with
  | zero =>
    have h' : d = x := Option.some.inj (Option.some.inj h)
    subst h'
    exact ⟨v, rfl, r⟩
  | succ i =>
    unfold gE at h
    rw [List.getElem?_cons_succ, List.getElem?_map] at h
    unfold gσ
    rw [List.getElem?_cons_succ, List.getElem?_map]
    cases q : fvs[i]? with
    | none =>
      rw [q] at h
      cases h
    | some p =>
      rw [q] at h
      have h' : (e[p.2]?).getD none = some x := Option.some.inj h
      have h2 : e[p.2]? = some (some x) := by
        cases z : e[p.2]? with
        | none =>
          rw [z] at h'
          cases h'
        | some w =>
          rw [z] at h'
          have h3 : w = some x := h'
          rw [h3]
      obtain ⟨u, hu, ru⟩ := re.at_ p.2 x h2
      exact ⟨u, by rw [Option.map_some, hu]; rfl, ru⟩
theorem fr_tab {K : PySem.W.Frag} {st hid : Sto} {H H' : Hp} {P : Addr} (S : Sx K st hid H) (t : GxR.TabG H P) (T : GxR.Tabbed P H H') : FrX st hid H st H' ∧ Sx K st hid H' := by
  have F : FrX st hid H st H' := by
    refine ⟨fun b o e f n => ⟨?_, f⟩, fun Q q f => ⟨?_, f⟩, fun b xs e => ⟨xs, ?_⟩⟩
    · have ne : b ≠ P := fun z => by
        obtain ⟨ps, e2, _⟩ := t
        rw [z, e2] at e
        exact n ps (Option.some.inj e).symm
      rw [T.2 b ne]
      exact e
    · by_cases z : Q = P
      · rw [z]
        exact T.1
      · obtain ⟨ps, e, q2⟩ := q
        exact ⟨ps, by rw [T.2 Q z]; exact e, q2⟩
    · have ne : b ≠ P := fun z => by
        obtain ⟨ps, e2, _⟩ := t
        rw [z, e2] at e
        cases e
      rw [T.2 b ne]
      exact e
  refine ⟨F, S.go F fun a ds e => ?_⟩
  obtain ⟨u, h0, hu⟩ := S.sr.there e
  refine (S.sr a ds e).keep S.sr F fun o h => ?_
  have ne : a ≠ P := fun z => by
    obtain ⟨ps, e2, _⟩ := t
    rw [z, e2] at h0
    cases h0
    exact hu
  rw [T.2 a ne]
  exact h
section
variable {X : Cx} {scope : Scope} {x : Str} {fvs : List (Str × Nat)} {te : TEd} {ti : TId} {c P : Addr} {k : Nat}
theorem pd_all {elt iter : Expr} {px p gpos pos : Pos} (hr : Room (k + 1) X.A) (hcalm : X.calm = true) (hg : Gl X "all") (hm : X.mg "all" = none) (hP : P ∈ (Tabs.tp : List Addr)) (TB : GxR.TabB X.base X.mg c P) (hcode : X.env.code = .ref c) (S : GSc X scope x fvs) (hN : (gN x fvs).Nodup)
    (hi : PDI X (.Name x px) iter ti) (hel : ∀ C code fp s H, PD (gx X (gN x fvs) scope C code fp s H) elt te) (hs : ∀ v, genFold iter X.env v = pure v := by intro _; rfl)
    (hb : bootBuiltins "all" = some (.builtin "all") := by decide +kernel)
    (he : starEach [.GeneratorExp elt [⟨.Name x px, iter, [], 0⟩] scope gpos] X.env = (false, eval (.GeneratorExp elt [⟨.Name x px, iter, [], 0⟩] scope gpos) X.env) :: starEach [] X.env := by rfl) :
    PD X (.Call (.Name "all" p) [.GeneratorExp elt [⟨.Name x px, iter, [], 0⟩] scope gpos] [] pos) (dAllG ti fvs te) :=
  PE.imp (pe_all (ti := upI X.K ti) (te := up X.K te) (p := p) (pos := pos) (px := px) (gpos := gpos) hr hcalm hg hm hb TB hcode S hN hi hel hs he) fun σ H Q ⟨e, st, hid, Qd, re, S0, h, kk⟩ => by
    refine ⟨e, st, hid, _, re, S0, h, fun J H1 it st1 F1 S1 ok1 at1 ⟨hl, W, w0, turn⟩ => ⟨S1.tb P hP, fun H2 T2 => ?_⟩⟩
    obtain ⟨F12, S2⟩ := fr_tab S1 (S1.tb P hP) T2
    refine ⟨fun i H' => ∃ st', W i st' ∧ FrX st1 hid H1 st' H' ∧ Sx X.K st' hid H', ⟨st1, w0, F12, S2⟩, ⟨fun i H3 ⟨st3, w3, F3, S3⟩ => ?_⟩⟩
    obtain ⟨at3, done, go⟩ := turn i st3 w3
    have It := ok1 i _ H3 F3 S3.sr fun a ds z => jn_some (at3 a ds z)
    by_cases hj : it.xs.length ≤ i
    · exact .inr ⟨It.2 hj, kk _ H3 _ st3 (Fr.trans F1 F3) S3 (.d (.bl true)) (done hj)⟩
    · have hlt : i < it.xs.length := Nat.lt_of_not_le hj
      have ed : it.xs[i]? = some it.xs[i] := List.getElem?_eq_getElem hlt
      obtain ⟨g1, g2⟩ := It.1 _ ed
      refine .inl ⟨g1, Nat.lt_trans hlt hl, fun v H4 hy => ?_⟩
      obtain ⟨F34, S4r, rv⟩ := g2 v H4 hy
      have S4 : Sx X.K st3 hid H4 := S3.go F34 S4r
      have re4 := (re.mono (Fr.trans F1 F3) S0.sr).mono F34 S3.sr
      refine ⟨gE e fvs it.xs[i], st3, hid, _, re_gen re4 rv fvs, S4, go _ ed, tst_go fun b H5 st5 F5 S5 q5 => ?_⟩
      have F15 : FrX st1 hid H1 st5 H5 := Fr.trans F3 (Fr.trans F34 F5)
      cases b with
      | true =>
        rw [if_pos rfl] at q5
        exact ⟨fun _ => ⟨st5, q5, F15, S5⟩, fun z => nomatch z⟩
      | false =>
        rw [if_neg Bool.false_ne_true] at q5
        exact ⟨(fun z => nomatch z), fun _ => kk _ H5 _ st5 (Fr.trans F1 F15) S5 (.d (.bl false)) q5⟩
end
end DL
namespace DZ
open PySem PySem.Spec PyProof.Rows L2
open Sem (wp)
/-! ### 'next' of a zip over two iterators of any kind, while the pair handed out before is still there -/
section
variable {prog : Program} {w : World} {A : Around} {E : Value → Shared → Prop} {s : Shared} {z TI TO i1 i2 T : Addr} {f : Bool} {oT : Obj} {fp1 fp2 : List Addr} {n1 n2 i : Nat} {P1 P2 : Nat → Value → Prop} {St1 St2 : Nat → Heap → Prop}
theorem zipH_item {Q : Value → Shared → Prop} (S : ZipSep2 z TI TO i1 i2 fp1 fp2) (D1 : Draws prog w A i1 fp1 n1 P1 St1) (D2 : Draws prog w A i2 fp2 n2 P2 St2)
    (hz : IsZipHeld s.heap z TI TO T f) (hT : s.heap.get? T = some oT) (hTI : IsTupOf2 s.heap TI (.ref i1) (.ref i2)) (st1 : St1 i s.heap) (st2 : St2 i s.heap) (hlt1 : i < n1) (hlt2 : i < n2)
    (hQ : ∀ x1 x2 h' tk, P1 i x1 → P2 i x2 → IsZipHeld h' z TI TO T true → St1 (i + 1) h' → St2 (i + 1) h' → IsTupOf2 h' s.heap.objs.size x1 x2 → h'.objs.size = s.heap.objs.size + 1 →
      (∀ c o, c ≠ z → c ≠ i1 → c ≠ i2 → s.heap.get? c = some o → h'.get? c = some o) → Q (.ref s.heap.objs.size) { s with heap := h', toks := tk }) :
    wpAny (model prog w) A (Builtin.«zip.__next__» ⟨[.ref z], []⟩) (fun fin s' => ∃ v, fin = .done (.ret v) ∧ Q v s') E s := by
  obtain ⟨hp, g, d, tk0, os⟩ := s
  show wpAny _ _ (field (.ref z) 2 >>= _) _ _ _
  refine wpAny_bind (wpAny_field hz rfl (x := .bool false) rfl ?_)
  show wpAny _ _ (field (.ref z) 3 >>= _) _ _ _
  refine wpAny_bind (wpAny_field hz rfl (x := .ref TI) rfl ?_)
  refine wpAny_bind (wpAny_seqItems hTI rfl ?_)
  show wpAny _ _ (Builtin.SmallTypes.ownedTupleIsFree (.ref z) >>= _) _ _ _
  refine wpAny_bind (wpAny_tupleHeld_zip hz hT fun h1 hz1 hs1 => ?_)
  replace hs1 : Heap.SameBut z hp h1 := hs1
  simp only [Bool.false_eq_true, if_false]
  refine wpAny_bind ?_
  rw [← Array.forIn_toList]
  simp only [List.forIn_cons, List.forIn_nil]
  refine wpAny_bind (wpAny_bind (wpAny_holding ?_))
  show wpAny _ _ (Builtin.SmallTypes.nextOf (.ref i1) >>= _) _ _ ⟨h1, g, d, tk0, os⟩
  refine wpAny_bind (D1.item i _ _ _ hlt1 (D1.over st1 hs1 S.zf1) fun x1 p1 tk1 hx1 sn1 hp1 => wpAny_pure ?_)
  replace hp1 : Heap.SameBut i1 h1 p1 := hp1
  refine wpAny_pure ?_
  refine wpAny_bind (wpAny_bind (wpAny_holding ?_))
  show wpAny _ _ (Builtin.SmallTypes.nextOf (.ref i2) >>= _) _ _ ⟨p1, g, d, tk1, os⟩
  refine wpAny_bind (D2.item i _ _ _ hlt2 (D2.over (D2.over st2 hs1 S.zf2) hp1 S.sep1_2) fun x2 p2 tk2 hx2 sn2 hp2 => wpAny_pure ?_)
  replace hp2 : Heap.SameBut i2 p1 p2 := hp2
  refine wpAny_pure (wpAny_pure ?_)
  show wpAny _ _ (newTuple [x1, x2] >>= _) _ _ ⟨p2, g, d, tk2, os⟩
  refine wpAny_bind (wpAny_newTuple ?_)
  have hsz : p2.objs.size = hp.objs.size := by rw [hp2.1, hp1.1, hs1.1]
  have hzz : IsZipHeld p2 z TI TO T true := hp2.extBut _ _ S.zi2 (hp1.extBut _ _ S.zi1 hz1)
  have hk : ∀ c o, c ≠ z → c ≠ i1 → c ≠ i2 → hp.get? c = some o → p2.get? c = some o := fun c o c1 c2 c3 e => hp2.extBut _ _ c3 (hp1.extBut _ _ c2 (hs1.extBut _ _ c1 e))
  have up : ∀ c o, p2.get? c = some o → (p2.push { cls := .type "tuple", data := .seq #[x1, x2] }).get? c = some o := fun c o e => Heap.get?_push_of_some _ e
  have hT2 : IsTupOf2 (p2.push { cls := .type "tuple", data := .seq #[x1, x2] }) p2.objs.size x1 x2 := Heap.get?_push_size _ rfl
  have hz2 : (p2.push { cls := .type "tuple", data := .seq #[x1, x2] }).objs.size = p2.objs.size + 1 := Heap.size_push ..
  refine wpAny_pure ⟨_, rfl, ?_⟩
  show Q (.ref p2.objs.size) ⟨p2.push { cls := .type "tuple", data := .seq #[x1, x2] }, g, d, tk2, os⟩
  rw [hsz] at hT2 hz2 ⊢
  exact hQ x1 x2 _ tk2 hx1 hx2 (up _ _ hzz) (D1.frame _ _ _ (D1.over sn1 hp2 S.sep2_1) fun b _ o e => up b o e) (D2.frame _ _ _ sn2 fun b _ o e => up b o e) hT2 hz2 fun c o c1 c2 c3 e => up c o (hk c o c1 c2 c3 e)
theorem zipH_end {Q : Fin → Shared → Prop} (S : ZipSep2 z TI TO i1 i2 fp1 fp2) (D1 : Draws prog w A i1 fp1 n1 P1 St1) (D2 : Draws prog w A i2 fp2 n2 P2 St2)
    (hz : IsZipHeld s.heap z TI TO T f) (hT : s.heap.get? T = some oT) (hTI : IsTupOf2 s.heap TI (.ref i1) (.ref i2)) (st1 : St1 i s.heap) (st2 : St2 i s.heap) (hle1 : i ≤ n1) (hend : i = n1 ∨ i = n2)
    (hE : ∀ h' tk e, (∀ c o, c ≠ z → c ≠ i1 → c ≠ i2 → s.heap.get? c = some o → h'.get? c = some o) → (∃ o, h'.get? e = some o ∧ o.cls = .type "StopIteration") → E (.ref e) { s with heap := h', toks := tk }) :
    wpAny (model prog w) A (Builtin.«zip.__next__» ⟨[.ref z], []⟩) Q E s := by
  obtain ⟨hp, g, d, tk0, os⟩ := s
  show wpAny _ _ (field (.ref z) 2 >>= _) _ _ _
  refine wpAny_bind (wpAny_field hz rfl (x := .bool false) rfl ?_)
  show wpAny _ _ (field (.ref z) 3 >>= _) _ _ _
  refine wpAny_bind (wpAny_field hz rfl (x := .ref TI) rfl ?_)
  refine wpAny_bind (wpAny_seqItems hTI rfl ?_)
  show wpAny _ _ (Builtin.SmallTypes.ownedTupleIsFree (.ref z) >>= _) _ _ _
  refine wpAny_bind (wpAny_tupleHeld_zip hz hT fun h1 hz1 hs1 => ?_)
  replace hs1 : Heap.SameBut z hp h1 := hs1
  simp only [Bool.false_eq_true, if_false]
  refine wpAny_bind ?_
  rw [← Array.forIn_toList]
  simp only [List.forIn_cons, List.forIn_nil]
  refine wpAny_bind (wpAny_bind (wpAny_holding ?_))
  show wpAny _ _ (Builtin.SmallTypes.nextOf (.ref i1) >>= _) _ _ ⟨h1, g, d, tk0, os⟩
  by_cases hlt1 : i < n1
  · refine wpAny_bind (D1.item i _ _ _ hlt1 (D1.over st1 hs1 S.zf1) fun x1 p1 tk1 hx1 sn1 hp1 => wpAny_pure ?_)
    replace hp1 : Heap.SameBut i1 h1 p1 := hp1
    refine wpAny_pure ?_
    refine wpAny_bind (wpAny_bind (wpAny_holding ?_))
    show wpAny _ _ (Builtin.SmallTypes.nextOf (.ref i2) >>= _) _ _ ⟨p1, g, d, tk1, os⟩
    have hi2 : i = n2 := by omega
    refine wpAny_bind (D2.done ⟨p1, g, d, tk1, os⟩ _ _ (by rw [← hi2]; exact D2.over (D2.over st2 hs1 S.zf2) hp1 S.sep1_2) fun q e hq he => ?_)
    replace hq : Heap.ExtBut i2 p1 q := hq
    exact hE q tk1 e (fun c o c1 c2 c3 x => hq _ _ c3 (hp1.extBut _ _ c2 (hs1.extBut _ _ c1 x))) he
  · have hi1 : i = n1 := by omega
    refine wpAny_bind (D1.done ⟨h1, g, d, tk0, os⟩ _ _ (by rw [← hi1]; exact D1.over st1 hs1 S.zf1) fun q e hq he => ?_)
    replace hq : Heap.ExtBut i1 h1 q := hq
    exact hE q tk0 e (fun c o c1 c2 c3 x => hq _ _ c2 (hs1.extBut _ _ c1 x)) he
end
section
variable {prog : Program} {w : World} {A : Around} {E : Value → Shared → Prop} {s : Shared} {z TI TO i1 i2 T : Addr} {f : Bool} {oT : Obj} {fp1 fp2 : List Addr} {n1 n2 i : Nat} {P1 P2 : Nat → Value → Prop} {St1 St2 : Nat → Heap → Prop}
theorem next_zipH_item {Q : Option Value → Shared → Prop} (S : ZipSep2 z TI TO i1 i2 fp1 fp2) (D1 : Draws prog w A.in1 i1 fp1 n1 P1 St1) (D2 : Draws prog w A.in1 i2 fp2 n2 P2 St2)
    (hz : IsZipHeld s.heap z TI TO T f) (hT : s.heap.get? T = some oT) (hTI : IsTupOf2 s.heap TI (.ref i1) (.ref i2)) (st1 : St1 i s.heap) (st2 : St2 i s.heap) (hlt1 : i < n1) (hlt2 : i < n2)
    (hQ : ∀ x1 x2 h' tk, P1 i x1 → P2 i x2 → IsZipHeld h' z TI TO T true → St1 (i + 1) h' → St2 (i + 1) h' → IsTupOf2 h' s.heap.objs.size x1 x2 → h'.objs.size = s.heap.objs.size + 1 →
      (∀ c o, c ≠ z → c ≠ i1 → c ≠ i2 → s.heap.get? c = some o → h'.get? c = some o) → Q (some (.ref s.heap.objs.size)) { s with heap := h', toks := tk }) :
    wpAny (model prog w) A (pyNext (.ref z)) Q E s := by
  have hTy : s.TypeIs (.ref z) "zip" := ⟨_, hz, rfl⟩
  unfold pyNext
  exact wpAny_bind (wpAny_attempt (wpAny_callSpecial?_slot (name := Str.ofString "__next__") hTy F.slot_zip_next
    (wpAny_call_entry F.slot_zip_next hTy F.entry_zip_next
      (zipH_item S D1 D2 hz hT hTI st1 st2 hlt1 hlt2 fun x1 x2 h' tk a1 a2 a3 a4 a5 a6 a7 a8 => wpAny_pure (hQ x1 x2 h' tk a1 a2 a3 a4 a5 a6 a7 a8)) (F.args_zip_next_1 _))))
theorem next_zipH_end {Q : Option Value → Shared → Prop} (S : ZipSep2 z TI TO i1 i2 fp1 fp2) (D1 : Draws prog w A.in1 i1 fp1 n1 P1 St1) (D2 : Draws prog w A.in1 i2 fp2 n2 P2 St2)
    (hz : IsZipHeld s.heap z TI TO T f) (hT : s.heap.get? T = some oT) (hTI : IsTupOf2 s.heap TI (.ref i1) (.ref i2)) (st1 : St1 i s.heap) (st2 : St2 i s.heap) (hle1 : i ≤ n1) (hend : i = n1 ∨ i = n2)
    (hQ : ∀ h' tk, (∀ c o, c ≠ z → c ≠ i1 → c ≠ i2 → s.heap.get? c = some o → h'.get? c = some o) → Q none { s with heap := h', toks := tk }) : wpAny (model prog w) A (pyNext (.ref z)) Q E s := by
  have hTy : s.TypeIs (.ref z) "zip" := ⟨_, hz, rfl⟩
  unfold pyNext
  refine wpAny_bind (wpAny_attempt (wpAny_callSpecial?_slot (name := Str.ofString "__next__") hTy F.slot_zip_next
    (wpAny_call_entry F.slot_zip_next hTy F.entry_zip_next (zipH_end S D1 D2 hz hT hTI st1 st2 hle1 hend fun h' tk e hk he => ?_) (F.args_zip_next_1 _))))
  obtain ⟨o, ho, hc⟩ := he
  refine wpAny_bind (wpAny_isInstance (T := "StopIteration") (b := true) ⟨o, ho, hc⟩ isSubtype_stop ?_)
  exact wpAny_pure (hQ _ _ hk)
end
end DZ
namespace DZ
open PySem PySem.Spec PyProof.Rows L2
open Sem (wp)
/-- pairs told, each at a new place -/
inductive Tells : Hp → List (V × V) → List Addr → Hp → Prop
  | nil {H} : Tells H [] [] H
  | snoc {H H1 ps as p T} : Tells H ps as H1 → H1 T = none → Tells H (ps ++ [p]) (as ++ [T]) (upd H1 T (.tup [p.1, p.2]))
theorem Tells.len {H H1 : Hp} {ps : List (V × V)} {as : List Addr} (t : Tells H ps as H1) : as.length = ps.length := by
  induction t with
  | nil => rfl
  | snoc _ _ ih => rw [List.length_append, List.length_append, ih]; rfl
theorem take_snoc {α : Type} {xs : List α} {i : Nat} {x : α} (h : xs[i]? = some x) : xs.take (i + 1) = xs.take i ++ [x] := by
  rw [List.take_add_one, h]
  rfl
structure ZS (h : Heap) (z TI TO i1 i2 a b S : Addr) (xs ys : Array Value) (i : Nat) : Prop where
  tI : IsTupOf2 h TI (.ref i1) (.ref i2)
  h1 : h.IsTupleIter i1 a i ∧ h.IsTuple a xs
  h2 : h.IsTupleIter i2 b i ∧ h.IsTuple b ys
  st : (IsZip h z TI TO .none ∧ ∃ u v, IsTupOf2 h TO u v) ∨ ∃ T f oT, IsZipHeld h z TI TO T f ∧ h.get? T = some oT ∧ T ∉ [z, TO, i1, i2, S]
theorem ZS.at {h h' : Heap} {z TI TO i1 i2 a b S : Addr} {xs ys : Array Value} {i : Nat} (x : ZS h z TI TO i1 i2 a b S xs ys i) (hS : S ∉ [z, TI, TO, i1, i2, a, b]) (k : ∀ c o, c ≠ S → h.get? c = some o → h'.get? c = some o) : ZS h' z TI TO i1 i2 a b S xs ys i := by
  have n : ∀ {c}, c ∈ [z, TI, TO, i1, i2, a, b] → c ≠ S := fun hc e => hS (e ▸ hc)
  refine ⟨k _ _ (n (by simp)) x.tI, ⟨x.h1.1.at fun o e => k _ o (n (by simp)) e, x.h1.2.at fun o e => k _ o (n (by simp)) e⟩, ⟨x.h2.1.at fun o e => k _ o (n (by simp)) e, x.h2.2.at fun o e => k _ o (n (by simp)) e⟩, ?_⟩
  rcases x.st with ⟨hz, u, v, hO⟩ | ⟨T, f, oT, hz, hT, nT⟩
  · exact .inl ⟨k _ _ (n (by simp)) hz, u, v, k _ _ (n (by simp)) hO⟩
  · exact .inr ⟨T, f, oT, k _ _ (n (by simp)) hz, k _ _ (fun e => nT (by simp [e])) hT, nT⟩
section
variable {X : Cx} {pins : List (Addr × Obj)} {σ : L2.St} {A : Around} {E : Value → Shared → Prop} {z TI TO i1 i2 a b S : Addr} {its1 its2 : List Value}
/-- one turn of the zip, whatever it did before -/
theorem zs_item {s : Shared} {i : Nat} {u v : Value} {Q : Option Value → Shared → Prop} (hh : A.handled = none) (Sp : ZipSep2 z TI TO i1 i2 [i1, a] [i2, b]) (hS : S ∉ [z, TI, TO, i1, i2, a, b]) (hn : ∀ c ∈ [z, TO, i1, i2, S], c < s.heap.objs.size)
    (x : ZS s.heap z TI TO i1 i2 a b S its1.toArray its2.toArray i) (e1 : its1[i]? = some u) (e2 : its2[i]? = some v)
    (hQ : ∀ h' tk, ZS h' z TI TO i1 i2 a b S its1.toArray its2.toArray (i + 1) → IsTupOf2 h' s.heap.objs.size u v → h'.objs.size = s.heap.objs.size + 1 → (∀ c o, c ∉ [z, TO, i1, i2] → s.heap.get? c = some o → h'.get? c = some o) →
      Q (some (.ref s.heap.objs.size)) { s with heap := h', toks := tk }) : wpAny (model X.prog X.w) A (pyNext (.ref z)) Q E s := by
  have hai : a ≠ i1 := fun e => by
    subst e
    obtain ⟨o, ho, hc, _⟩ := x.h1.1
    obtain ⟨o2, ho2, hc2, _⟩ := x.h1.2
    rw [ho] at ho2
    cases ho2
    rw [hc] at hc2
    exact absurd hc2 (by decide)
  have hbi : b ≠ i2 := fun e => by
    subst e
    obtain ⟨o, ho, hc, _⟩ := x.h2.1
    obtain ⟨o2, ho2, hc2, _⟩ := x.h2.2
    rw [ho] at ho2
    cases ho2
    rw [hc] at hc2
    exact absurd hc2 (by decide)
  have D1 := Draws.tuple (prog := X.prog) (w := X.w) (A := A.in1) hh i1 a hai its1.toArray
  have D2 := Draws.tuple (prog := X.prog) (w := X.w) (A := A.in1) hh i2 b hbi its2.toArray
  have l1 : i < its1.toArray.size := by simpa using (List.getElem?_eq_some_iff.mp e1).1
  have l2 : i < its2.toArray.size := by simpa using (List.getElem?_eq_some_iff.mp e2).1
  have nT : s.heap.objs.size ∉ [z, TO, i1, i2, S] := fun hm => Nat.lt_irrefl _ (hn _ hm)
  have fin : ∀ x1 x2, its1.toArray[i]? = some x1 → its2.toArray[i]? = some x2 → x1 = u ∧ x2 = v := fun x1 x2 q1 q2 => by
    have a1 : its1[i]? = some x1 := by simpa using q1
    have a2 : its2[i]? = some x2 := by simpa using q2
    rw [e1] at a1
    rw [e2] at a2
    exact ⟨(Option.some.inj a1).symm, (Option.some.inj a2).symm⟩
  rcases x.st with ⟨hz, p, q, hO⟩ | ⟨T, f, oT, hz, hT, nT'⟩
  · refine wpAny_pyNext_zipD2_item Sp D1 D2 hz x.tI hO x.h1 x.h2 l1 l2 fun x1 x2 h' tk q1 q2 b1 b2 d1 d2 b5 b6 b7 => ?_
    obtain ⟨rfl, rfl⟩ := fin _ _ q1 q2
    exact hQ h' tk ⟨b7 _ _ Sp.TIz Sp.TITO Sp.TIi1 Sp.TIi2 x.tI, d1, d2, .inr ⟨_, false, _, b1, b5, nT⟩⟩ b5 b6 fun c o hc e => b7 c o (fun w => hc (by simp [w])) (fun w => hc (by simp [w])) (fun w => hc (by simp [w])) (fun w => hc (by simp [w])) e
  · refine next_zipH_item Sp D1 D2 hz hT x.tI x.h1 x.h2 l1 l2 fun x1 x2 h' tk q1 q2 b1 d1 d2 b5 b6 b7 => ?_
    obtain ⟨rfl, rfl⟩ := fin _ _ q1 q2
    exact hQ h' tk ⟨b7 _ _ Sp.TIz Sp.TIi1 Sp.TIi2 x.tI, d1, d2, .inr ⟨T, true, oT, b1, b7 _ _ (fun w => nT' (by simp [w])) (fun w => nT' (by simp [w])) (fun w => nT' (by simp [w])) hT, nT'⟩⟩ b5 b6 fun c o hc e => b7 c o (fun w => hc (by simp [w])) (fun w => hc (by simp [w])) (fun w => hc (by simp [w])) e
theorem zs_done {s : Shared} {i : Nat} {Q : Option Value → Shared → Prop} (hh : A.handled = none) (Sp : ZipSep2 z TI TO i1 i2 [i1, a] [i2, b])
    (x : ZS s.heap z TI TO i1 i2 a b S its1.toArray its2.toArray i) (hi1 : i ≤ its1.length) (hi2 : i ≤ its2.length) (he : i = its1.length ∨ i = its2.length)
    (hQ : ∀ h' tk, (∀ c o, c ∉ [z, TO, i1, i2] → s.heap.get? c = some o → h'.get? c = some o) → Q none { s with heap := h', toks := tk }) : wpAny (model X.prog X.w) A (pyNext (.ref z)) Q E s := by
  have hai : a ≠ i1 := fun e => by
    subst e
    obtain ⟨o, ho, hc, _⟩ := x.h1.1
    obtain ⟨o2, ho2, hc2, _⟩ := x.h1.2
    rw [ho] at ho2
    cases ho2
    rw [hc] at hc2
    exact absurd hc2 (by decide)
  have hbi : b ≠ i2 := fun e => by
    subst e
    obtain ⟨o, ho, hc, _⟩ := x.h2.1
    obtain ⟨o2, ho2, hc2, _⟩ := x.h2.2
    rw [ho] at ho2
    cases ho2
    rw [hc] at hc2
    exact absurd hc2 (by decide)
  have D1 := Draws.tuple (prog := X.prog) (w := X.w) (A := A.in1) hh i1 a hai its1.toArray
  have D2 := Draws.tuple (prog := X.prog) (w := X.w) (A := A.in1) hh i2 b hbi its2.toArray
  have he' : i = its1.toArray.size ∨ i = its2.toArray.size := by simpa using he
  rcases x.st with ⟨hz, p, q, hO⟩ | ⟨T, f, oT, hz, hT, nT'⟩
  · exact wpAny_pyNext_zipD2_end Sp D1 D2 hz x.tI hO x.h1 x.h2 (by simpa using hi1) (by simpa using hi2) he' fun h' tk b7 => hQ h' tk fun c o hc e => b7 c o (fun w => hc (by simp [w])) (fun w => hc (by simp [w])) (fun w => hc (by simp [w])) (fun w => hc (by simp [w])) e
  · exact next_zipH_end Sp D1 D2 hz hT x.tI x.h1 x.h2 (by simpa using hi1) he' fun h' tk b7 => hQ h' tk fun c o hc e => b7 c o (fun w => hc (by simp [w])) (fun w => hc (by simp [w])) (fun w => hc (by simp [w])) e
end
section
variable {X : Cx} {pins : List (Addr × Obj)} {σ : L2.St} {A : Around} {R : Result → Shared → Prop} {z TI TO i1 i2 a b S : Addr} {its1 its2 : List Value} {xs ys : List V} {H0 : Hp}
theorem zl_loop (hh : A.handled = none) (Sp : ZipSep2 z TI TO i1 i2 [i1, a] [i2, b]) (hS : S ∉ [z, TI, TO, i1, i2, a, b]) (hf : ∀ H c, c ∈ [z, TO, i1, i2, S] → H c = none → FpOk X pins H c) (vx : Vals xs its1) (vy : Vals ys its2) (hsz : xs.length ≤ sizeLine) (res : Value)
    (fin : ∀ (s' : Shared) (as : List Addr) (H1 : Hp) (acc : Array Value) (c : Nat), Tells H0 (xs.zip ys) as H1 → Inv X pins σ H1 s' → (∀ c ∈ [z, TO, i1, i2, S], H1 c = none) → s'.heap.get? S = some { cls := .type "list", dict := none, data := .seq acc c, slots := #[] } → acc.toList = as.map Value.ref → R (.ok (.ret res)) s') :
    ∀ (k i : Nat) (s : Shared) (c : Nat) (acc : Array Value) (as : List Addr) (H1 : Hp), (xs.zip ys).length - i = k → i ≤ (xs.zip ys).length → ZS s.heap z TI TO i1 i2 a b S its1.toArray its2.toArray i → Tells H0 ((xs.zip ys).take i) as H1 → Inv X pins σ H1 s →
      (∀ c ∈ [z, TO, i1, i2, S], H1 c = none ∧ c < s.heap.objs.size) → s.heap.get? S = some { cls := .type "list", dict := none, data := .seq acc c, slots := #[] } → acc.toList = as.map Value.ref →
      codeAny (model X.prog X.w) A (.builtin "list.extend.loop" ⟨[.ref S, .ref z, res], []⟩) R s := by
  have L1 := vx.length
  have L2 := vy.length
  have Lz : (xs.zip ys).length = min xs.length ys.length := List.length_zip
  have hSf : S ∉ [z, TO, i1, i2] := fun hm => hS (by
    simp only [List.mem_cons, List.not_mem_nil, or_false] at hm ⊢
    rcases hm with q | q | q | q <;> simp [q])
  intro k
  induction k with
  | zero =>
    intro i s c acc as H1 hk hi x t I hn hSl hacc
    have hin : i = (xs.zip ys).length := by omega
    refine codeAny_builtin PySem.F.entry_extend_loop ?_
    rw [Around.under_plainId PySem.F.plain_extend_loop _]
    show wpAny _ A.in1 (pyNext (.ref z) >>= _) _ _ _
    refine wpAny_bind (zs_done (X := X) (A := A.in1) (s := s) hh Sp x (by omega) (by omega) (by omega) fun h' tk hk' => ?_)
    refine wpAny_pure (fin _ as H1 acc c (by rw [hin, List.take_length] at t; exact t) (I.turnedL (ch := [z, TO, i1, i2]) hk' fun b hb => hf H1 b (by
      simp only [List.mem_cons, List.not_mem_nil, or_false] at hb ⊢
      rcases hb with q | q | q | q <;> simp [q]) (hn b (by
      simp only [List.mem_cons, List.not_mem_nil, or_false] at hb ⊢
      rcases hb with q | q | q | q <;> simp [q])).1) (fun c hc => (hn c hc).1) (hk' _ _ hSf hSl) hacc)
  | succ k ih =>
    intro i s c acc as H1 hk hi x t I hn hSl hacc
    have hlt : i < (xs.zip ys).length := by omega
    have q1 : i < its1.length := by omega
    have q2 : i < its2.length := by omega
    have p1 : i < xs.length := by omega
    have p2 : i < ys.length := by omega
    have hal : as.length = i := by rw [t.len, List.length_take]; omega
    have hacs : acc.size = i := by rw [← Array.length_toList, hacc, List.length_map, hal]
    refine codeAny_builtin PySem.F.entry_extend_loop ?_
    rw [Around.under_plainId PySem.F.plain_extend_loop _]
    show wpAny _ A.in1 (pyNext (.ref z) >>= _) _ _ _
    refine wpAny_bind (zs_item (X := X) (A := A.in1) (s := s) hh Sp hS (fun c hc => (hn c hc).2) x (List.getElem?_eq_getElem q1) (List.getElem?_eq_getElem q2) fun h' tk x' hT hz' hk' => ?_)
    have hS' := hk' _ _ hSf hSl
    have hSlt : S < s.heap.objs.size := (hn S (by simp)).2
    have up : ∀ b o, b ≠ S → h'.get? b = some o → (h'.update S (Obj.mapSeq (·.push (Value.ref s.heap.objs.size)))).get? b = some o := fun b o hb e => (Heap.get?_update_other _ _ (Ne.symm hb)).trans e
    have ru : RelV xs[i] its1[i] := by
      obtain ⟨u, hu, r⟩ := vx.get (List.getElem?_eq_getElem p1)
      rw [List.getElem?_eq_getElem q1] at hu
      cases hu
      exact r
    have rv : RelV ys[i] its2[i] := by
      obtain ⟨u, hu, r⟩ := vy.get (List.getElem?_eq_getElem p2)
      rw [List.getElem?_eq_getElem q2] at hu
      cases hu
      exact r
    have hne : s.heap.objs.size ≠ S := Nat.ne_of_gt hSlt
    have eT := up _ _ hne hT
    have new : ObjOk X.prog X.w (upd H1 s.heap.objs.size (.tup [xs[i], ys[i]])) (h'.update S (Obj.mapSeq (·.push (Value.ref s.heap.objs.size)))) s.heap.objs.size (.tup [xs[i], ys[i]]) :=
      ⟨by show 2 ≤ sizeLine; decide, [its1[i], its2[i]], .cons ru (.cons rv .nil), ⟨_, eT, rfl, _, rfl⟩⟩
    have I1 : Inv X pins σ (upd H1 s.heap.objs.size (.tup [xs[i], ys[i]])) { s with heap := h'.update S (Obj.mapSeq (·.push (Value.ref s.heap.objs.size))), toks := tk } :=
      I.turnedNew (ch := [z, TO, i1, i2, S]) (fun b o hb e => up b o (fun w => hb (by simp [w])) (hk' b o (fun w => hb (by
        simp only [List.mem_cons, List.not_mem_nil, or_false] at w ⊢
        rcases w with q | q | q | q <;> simp [q])) e)) (fun b hb => hf H1 b hb (hn b hb).1) (Nat.le_refl _) new
    show wpAny _ A.in1 (updateSeq S (·.push (Value.ref s.heap.objs.size)) >>= _) _ _ _
    refine wpAny_bind ?_
    refine wpAny_updateSeq hS' rfl (wpAny_pure ⟨plainId_quiet PySem.F.plain_extend_loop _, ih (i + 1) _ _ (acc.push (Value.ref s.heap.objs.size)) (as ++ [s.heap.objs.size]) _ (by omega) hlt (x'.at hS up) ?_ I1 (fun c hc => ⟨?_, ?_⟩) (Heap.get?_update_self _ hS' rfl) (by rw [Array.toList_push, hacc, List.map_append]; rfl)⟩) (by rw [hacs]; omega) (by show (acc.push (Value.ref s.heap.objs.size)).size ≤ sizeLine + 1; rw [Array.size_push, hacs]; omega)
    · have ez : (xs.zip ys)[i]? = some (xs[i], ys[i]) := by
        rw [List.getElem?_eq_getElem hlt, List.getElem_zip]
      rw [take_snoc ez]
      exact Tells.snoc (p := (xs[i], ys[i])) t (I.hok.fresh (Nat.le_refl _))
    · rw [upd_ne (Nat.ne_of_lt (hn c hc).2)]
      exact (hn c hc).1
    · have hlt' : s.heap.objs.size < (h'.update S (Obj.mapSeq (·.push (Value.ref s.heap.objs.size)))).objs.size := Heap.lt_size eT
      exact Nat.lt_trans (hn c hc).2 hlt'
end
end DZ
namespace DZ
open PySem PySem.Spec PyProof.Rows L2
open Sem (wp)
theorem zip_no_len : typeLookup (.type "zip") "__len__" = pure none := by rw [typeLookup_type, builtinLookup_eq_fast]; kernel_rfl
theorem zip_no_hint : typeLookup (.type "zip") "__length_hint__" = pure none := by rw [typeLookup_type, builtinLookup_eq_fast]; kernel_rfl
theorem ge5 {N c S : Nat} (h : N ≤ S) (w : c = N + 4 ∨ c = N + 3 ∨ c = N ∨ c = N + 1 ∨ c = S) : N ≤ c := by omega
theorem no7 {N a b S : Nat} (ha : a < N) (hb : b < N) (hz : N + 4 < S) : ¬ (S = N + 4 ∨ S = N + 2 ∨ S = N + 3 ∨ S = N ∨ S = N + 1 ∨ S = a ∨ S = b) := by omega
theorem lt5 {N c S m : Nat} (hN : N + 5 ≤ m) (hS : S < m) (w : c = N + 4 ∨ c = N + 3 ∨ c = N ∨ c = N + 1 ∨ c = S) : c < m := by omega
theorem le4 {N S : Nat} (h : N + 4 < S) : N ≤ S := by omega
theorem lt4 {N m : Nat} (h : N + 5 ≤ m) : N + 4 < m := by omega
/-- an object of ours is told -/
theorem inv_tell {X : Cx} {pins : List (Addr × Obj)} {σ : L2.St} {H : Hp} {s : Shared} {T : Addr} {ob : HO} (I : Inv X pins σ H s) (hf : FpOk X pins H T) (new : ObjOk X.prog X.w (upd H T ob) s.heap T ob) : Inv X pins σ (upd H T ob) s := by
  have hn : H T = none := hf.1
  refine I.step (h' := s.heap) (g' := s.gens) (d' := s.drawn) (t' := s.toks) (ch := [T]) (fun b hb => ?_) (fun b o _ _ hc e _ => e) (fun b o _ _ hc e _ => ⟨o.slots, e⟩)
    (fun b o hb e n => ?_) (fun b o hc e => ⟨o, e⟩) (fun b xs e => ?_) (fun b o u e => ?_) (fun b ps e => ⟨#[], ?_⟩) (fun m hm => hm) (fun b u e => ?_) I.bare
  · have e : b = T := by simpa using hb
    rw [e]
    exact ⟨hf.2.2.2.1, hf.2.1, hf.2.2.2.2.1, hf.2.2.2.2.2⟩
  · rw [upd_ne (fun w => hb (by simp [w]))]; exact n
  · rw [upd_ne (ne_of_none e hn)]; exact e
  · rw [upd_ne (ne_of_none e hn)]; exact e
  · rw [upd_ne (ne_of_none e hn), e]; simp
  · by_cases hb : b = T
    · subst hb
      rw [upd_same] at e
      cases e
      exact new
    · rw [upd_ne hb] at e
      exact (I.hok b u e).stay (fun c v hc q => q) (fun c q => by rw [upd_ne (ne_of_none q hn)]; exact q) fun c xs q => by rw [upd_ne (ne_of_none q hn)]; exact q
theorem vals_refs : ∀ as : List Addr, Vals (as.map V.ref) (as.map Value.ref)
  | [] => .nil
  | a :: as => .cons rfl (vals_refs as)
theorem ZS.typeIs {s : Shared} {z TI TO i1 i2 a b S : Addr} {xs ys : Array Value} {i : Nat} (x : ZS s.heap z TI TO i1 i2 a b S xs ys i) : s.TypeIs (.ref z) "zip" := by
  rcases x.st with ⟨hz, _⟩ | ⟨_, _, _, hz, _⟩
  · exact ⟨_, hz, rfl⟩
  · exact ⟨_, hz, rfl⟩
section
variable {X : Cx} {pins : List (Addr × Obj)} {σ : L2.St} {A : Around} {R : Result → Shared → Prop} {z TI TO i1 i2 a b S : Addr} {its1 its2 : List Value} {xs ys : List V} {H0 : Hp} {s : Shared}
theorem zl_extend (hh : A.handled = none) (Sp : ZipSep2 z TI TO i1 i2 [i1, a] [i2, b]) (hS : S ∉ [z, TI, TO, i1, i2, a, b]) (hf : ∀ H c, c ∈ [z, TO, i1, i2, S] → H c = none → FpOk X pins H c) (vx : Vals xs its1) (vy : Vals ys its2) (hsz : xs.length ≤ sizeLine) (res : Value)
    (c0 : Nat) (hSl : s.heap.get? S = some { cls := .type "list", dict := none, data := .seq #[] c0, slots := #[] }) (hz0 : IsZip s.heap z TI TO .none) (x : ZS s.heap z TI TO i1 i2 a b S its1.toArray its2.toArray 0) (I : Inv X pins σ H0 s) (hn : ∀ c ∈ [z, TO, i1, i2, S], H0 c = none ∧ c < s.heap.objs.size)
    (fin : ∀ (s' : Shared) (as : List Addr) (H1 : Hp) (acc : Array Value) (c : Nat), Tells H0 (xs.zip ys) as H1 → Inv X pins σ H1 s' → (∀ c ∈ [z, TO, i1, i2, S], H1 c = none) → s'.heap.get? S = some { cls := .type "list", dict := none, data := .seq acc c, slots := #[] } → acc.toList = as.map Value.ref → R (.ok (.ret res)) s') :
    wpAny (model X.prog X.w) A.in1 (Builtin.List.listExtendWith (.ref S) (.ref z) res)
      (fun fin s' => match fin with | .done f => R (.ok f) s' | .again c' => c'.quiet = true ∧ codeAny (model X.prog X.w) A c' R s') (fun e s' => R (.error e) s') s := by
  have hSz : S ≠ z := fun e => hS (by simp [e])
  unfold Builtin.List.listExtendWith
  refine wpAny_bind (wpAny_typeOf x.typeIs ?_)
  have h1 : Builtin.List.listSameRef (.ref S) (.ref z) = false := by simp [Builtin.List.listSameRef, hSz]
  have h2 : (Value.type "zip" == Value.type "list") = false := by decide
  have h3 : (Value.type "zip" == Value.type "tuple") = false := by decide
  simp only [h1, h2, h3, Bool.or_false, Bool.false_eq_true, if_false]
  refine wpAny_bind (wpAny_pyIter_zip hz0 ?_)
  refine wpAny_bind (wpAny_holding ?_)
  unfold Builtin.List.listLengthHint
  refine wpAny_bind (wpAny_specialOf x.typeIs zip_no_len ?_)
  show wpAny _ A.in1 (specialOf (Value.ref z) (Str.ofString "__length_hint__") >>= _) _ _ _
  refine wpAny_bind (wpAny_specialOf x.typeIs zip_no_hint ?_)
  refine wpAny_pure ?_
  show wpAny _ A.in1 (rule "list.extend.makes-room" >>= fun _ => Builtin.List.listTouch (.ref S) >>= fun _ =>
    again (.builtin "list.extend.loop" ⟨[.ref S, .ref z, res], []⟩)) _ _ _
  refine wpAny_bind (wpAny_rule ?_)
  refine wpAny_bind ?_
  show wpAny _ A.in1 (updateSeq S (·.push .none) >>= fun _ => updateSeq S (·.pop)) _ _ _
  refine wpAny_bind (wpAny_updateSeq hSl rfl ?_)
  have hS2 := Heap.get?_update_self (Obj.mapSeq (·.push Value.none)) hSl rfl
  refine wpAny_updateSeq (hz := by seq_fits) hS2 rfl ?_
  have hS3 := Heap.get?_update_self (Obj.mapSeq (·.pop)) hS2 rfl
  have oth : ∀ b o, b ≠ S → s.heap.get? b = some o → ((s.heap.update S (Obj.mapSeq (·.push Value.none))).update S (Obj.mapSeq (·.pop))).get? b = some o :=
    fun b o hb e => (Heap.get?_update_other _ _ (Ne.symm hb)).trans ((Heap.get?_update_other _ _ (Ne.symm hb)).trans e)
  have IT : Inv X pins σ H0 { s with heap := (s.heap.update S (Obj.mapSeq (·.push Value.none))).update S (Obj.mapSeq (·.pop)) } :=
    I.turnedL (t' := s.toks) (ch := [S]) (fun b o hb e => oth b o (fun w => hb (by simp [w])) e) fun b hb => hf H0 b (by
      have : b = S := by simpa using hb
      simp [this]) (hn b (by
      have : b = S := by simpa using hb
      simp [this])).1
  refine wpAny_pure ⟨plainId_quiet PySem.F.plain_extend_loop _, zl_loop hh Sp hS hf vx vy hsz res fin (xs.zip ys).length 0 _ _ #[] [] H0 (Nat.sub_zero _) (Nat.zero_le _) (x.at hS oth) (by rw [List.take_zero]; exact .nil)
    IT (fun c hc => ⟨(hn c hc).1, ?_⟩) hS3 rfl⟩
  show c < ((s.heap.update S (Obj.mapSeq (·.push Value.none))).update S (Obj.mapSeq (·.pop))).objs.size
  have e : ((s.heap.update S (Obj.mapSeq (·.push Value.none))).update S (Obj.mapSeq (·.pop))).objs.size = s.heap.objs.size := by
    rw [(Heap.SameBut.update ..).1, (Heap.SameBut.update ..).1]
  rw [e]
  exact (hn c hc).2
/-- a zip that begins, as the hand layer sees it -/
structure ZB (X : Cx) (pins : List (Addr × Obj)) (σ : L2.St) (H : Hp) (s : Shared) (z a b : Addr) (xs ys : List V) (its1 its2 : List Value) : Prop where
  inv : Inv X pins σ H s
  vx : Vals xs its1
  vy : Vals ys its2
  sz : xs.length ≤ sizeLine
  st : ∃ N, z = N + 4 ∧ a < N ∧ b < N ∧ N + 5 ≤ s.heap.objs.size ∧ IsZip s.heap (N + 4) (N + 2) (N + 3) .none ∧ (∃ u v, IsTupOf2 s.heap (N + 3) u v) ∧ IsTupOf2 s.heap (N + 2) (.ref N) (.ref (N + 1)) ∧ (s.heap.IsTupleIter N a 0 ∧ s.heap.IsTuple a its1.toArray) ∧ (s.heap.IsTupleIter (N + 1) b 0 ∧ s.heap.IsTuple b its2.toArray) ∧
    ∀ H c, N ≤ c → H c = none → FpOk X pins H c
  no : ∀ c, z ≤ c + 4 → c ≤ z → H c = none
theorem zb_extend {z a b S : Addr} (hh : A.handled = none) (B : ZB X pins σ H0 s z a b xs ys its1 its2) (hz : z < S) (hHS : H0 S = none) (res : Value) (c0 : Nat) (hSl : s.heap.get? S = some { cls := .type "list", dict := none, data := .seq #[] c0, slots := #[] })
    (fin : ∀ (s' : Shared) (as : List Addr) (H1 : Hp) (acc : Array Value) (c : Nat), Tells H0 (xs.zip ys) as H1 → Inv X pins σ H1 s' → H1 S = none → FpOk X pins H1 S → s'.heap.get? S = some { cls := .type "list", dict := none, data := .seq acc c, slots := #[] } → acc.toList = as.map Value.ref → R (.ok (.ret res)) s') :
    wpAny (model X.prog X.w) A.in1 (Builtin.List.listExtendWith (.ref S) (.ref z) res)
      (fun fin s' => match fin with | .done f => R (.ok f) s' | .again c' => c'.quiet = true ∧ codeAny (model X.prog X.w) A c' R s') (fun e s' => R (.error e) s') s := by
  obtain ⟨N, rfl, ha, hb, hN, q1, ⟨u, v, q2⟩, q3, q4, q5, q6⟩ := B.st
  have ge : ∀ c ∈ [N + 4, N + 3, N, N + 1, S], N ≤ c := fun c hc => by
    simp only [List.mem_cons, List.not_mem_nil, or_false] at hc
    exact ge5 (le4 hz) hc
  refine zl_extend (TI := N + 2) (TO := N + 3) (i1 := N) (i2 := N + 1) hh (zip_sep2 (by simpa using ha) (by simpa using hb)) ?_ (fun H c hc hn => q6 H c (ge c hc) hn) B.vx B.vy B.sz res c0 hSl q1 ⟨q3, q4, q5, .inl ⟨q1, u, v, q2⟩⟩ B.inv (fun c hc => ⟨?_, ?_⟩) fun s' as H1 acc c t I hn hSl' hacc => fin s' as H1 acc c t I (hn S (by simp)) (q6 H1 S (ge S (by simp)) (hn S (by simp))) hSl' hacc
  · intro hm
    simp only [List.mem_cons, List.not_mem_nil, or_false] at hm
    exact no7 ha hb hz hm
  · simp only [List.mem_cons, List.not_mem_nil, or_false] at hc
    rcases hc with w | w | w | w | w
    · rw [w]; exact B.no _ (by simp) (by simp)
    · rw [w]; exact B.no _ (by simp) (by simp)
    · rw [w]; exact B.no _ (by simp) (by simp)
    · rw [w]; exact B.no _ (by simp) (by simp)
    · rw [w]; exact hHS
  · have hSs : S < s.heap.objs.size := Heap.lt_size hSl
    simp only [List.mem_cons, List.not_mem_nil, or_false] at hc
    exact lt5 hN hSs hc
theorem ZB.push {z a b : Addr} (B : ZB X pins σ H0 s z a b xs ys its1 its2) {h' : Heap} {t' : Nat} (hs : s.heap.objs.size ≤ h'.objs.size) (k : ∀ c o, s.heap.get? c = some o → h'.get? c = some o) : ZB X pins σ H0 { s with heap := h', toks := t' } z a b xs ys its1 its2 := by
  obtain ⟨N, e, ha, hb, hN, q1, ⟨u, v, q2⟩, q3, q4, q5, q6⟩ := B.st
  exact ⟨B.inv.kept k, B.vx, B.vy, B.sz, ⟨N, e, ha, hb, Nat.le_trans hN hs, k _ _ q1, ⟨u, v, k _ _ q2⟩, k _ _ q3, ⟨q4.1.at fun o x => k _ o x, q4.2.at fun o x => k _ o x⟩, ⟨q5.1.at fun o x => k _ o x, q5.2.at fun o x => k _ o x⟩, q6⟩, B.no⟩
theorem ZB.lt {z a b : Addr} (B : ZB X pins σ H0 s z a b xs ys its1 its2) : z < s.heap.objs.size := by
  obtain ⟨N, e, ha, hb, hN, _⟩ := B.st
  rw [e]
  exact lt4 hN
theorem zb_list {z a b : Addr} {Q : Value → Shared → Prop} {E : Value → Shared → Prop} (hh : A.handled = none) (B : ZB X pins σ H0 s z a b xs ys its1 its2)
    (hQ : ∀ (s' : Shared) (as : List Addr) (H1 : Hp) (S : Addr), Tells H0 (xs.zip ys) as H1 → H1 S = none → Inv X pins σ (upd H1 S (.lst (as.map V.ref))) s' → Q (.ref S) s') :
    wpAny (model X.prog X.w) A (call (.type "list") [.ref z]) Q E s := by
  refine callType_codes (Q₁ := fun obj s₁ => obj = .ref s.heap.objs.size ∧ s₁ = { s with heap := s.heap.push { cls := .type "list", data := .seq #[] } }) PySem.F.called_list (PySem.F.typeCall_list_1 _) PySem.F.entry_list_init
    (code_list_new _ ⟨rfl, rfl⟩) fun obj s₁ h₁ => ?_
  obtain ⟨rfl, rfl⟩ := h₁
  have hS : (s.heap.push { cls := .type "list", data := .seq #[] }).get? s.heap.objs.size = some { cls := .type "list", data := .seq #[] } := Heap.get?_push_size _ rfl
  have hSf : H0 s.heap.objs.size = none := B.inv.hok.fresh (Nat.le_refl _)
  refine ⟨⟨_, hS, rfl⟩, PySem.F.args_list_init_2 _ _, ?_⟩
  show wpAny _ _ (do let old ← Builtin.List.listItems (.ref s.heap.objs.size); Builtin.List.listUpdate (.ref s.heap.objs.size) (fun _ => #[]); letGo old.toList.reverse; Builtin.List.listExtendWith (.ref s.heap.objs.size) (.ref z) .none) _ _ _
  refine wpAny_bind ?_
  unfold Builtin.List.listItems
  refine wpAny_bind (wpAny_seqItems hS rfl (wpAny_pure ?_))
  show wpAny _ _ (updateSeq s.heap.objs.size (fun _ => #[]) >>= fun _ => letGo (#[] : Array Value).toList.reverse >>= fun _ => Builtin.List.listExtendWith (.ref s.heap.objs.size) (.ref z) .none) _ _ _
  refine wpAny_bind (wpAny_updateSeq hS rfl ?_)
  have hS₂ := Heap.get?_update_self (Obj.mapSeq (fun _ => (#[] : Array Value))) hS rfl
  have oth : ∀ b o, s.heap.get? b = some o → ((s.heap.push { cls := .type "list", data := .seq #[] }).update s.heap.objs.size (Obj.mapSeq (fun _ => (#[] : Array Value)))).get? b = some o :=
    fun b o e => (Heap.get?_update_other _ _ (Nat.ne_of_gt (Heap.lt_size e))).trans (Heap.get?_push_of_some _ e)
  refine wpAny_bind (wpAny_letGo ?_)
  refine zb_extend (A := A.in1) hh (B.push (t' := s.toks) (h' := (s.heap.push { cls := .type "list", data := .seq #[] }).update s.heap.objs.size (Obj.mapSeq (fun _ => (#[] : Array Value)))) ?_ oth) B.lt hSf .none _ hS₂ fun s' as H1 acc c t I hn hfp hSl hacc => ?_
  · rw [(Heap.SameBut.update ..).1, Heap.size_push]
    exact Nat.le_succ _
  · refine ⟨rfl, hQ s' as H1 _ t hn ?_⟩
    have hl : as.length = (xs.zip ys).length := t.len
    have hle : (as.map V.ref).length ≤ sizeLine := by
      rw [List.length_map, hl, List.length_zip]
      exact Nat.le_trans (Nat.min_le_left ..) B.sz
    exact inv_tell I hfp ⟨hle, acc.toList, c, by rw [hacc]; exact vals_refs as, by rw [Array.toArray_toList]; exact hSl⟩
end
end DZ
namespace DZ
open PySem PySem.Spec PyProof.Rows L2
open Sem (wp)
section
variable {X : Cx} {pins : List (Addr × Obj)} {σ : L2.St} {A : Around} {R : Result → Shared → Prop} {a b : Addr} {its1 its2 : List Value} {xs ys : List V} {H0 : Hp} {s : Shared}
theorem zb_collect {z : Addr} {Q : List Value → Shared → Prop} {E : Value → Shared → Prop} (hh : A.handled = none) (B : ZB X pins σ H0 s z a b xs ys its1 its2)
    (hQ : ∀ (s' : Shared) (as : List Addr) (H1 : Hp), Tells H0 (xs.zip ys) as H1 → Inv X pins σ H1 s' → Q (as.map Value.ref) s') :
    wpAny (model X.prog X.w) A (collect (.ref z)) Q E s := by
  unfold collect
  refine wpAny_bind (wpAny_runValue (codeAny_builtin F.entry_proto_collect ?_))
  rw [Around.under_plainId F.plain_proto_collect _]
  show wpAny _ A.in1 (newList [] >>= fun l => again (.builtin "list.__iadd__" ⟨[l, .ref z], []⟩)) _ _ s
  refine wpAny_bind (wpAny_newObj_type ?_)
  refine wpAny_pure ⟨plainId_quiet F.plain_list_iadd _, codeAny_builtin F.entry_list_iadd ?_⟩
  rw [Around.under_plainId F.plain_list_iadd _]
  have hS : (s.heap.push { cls := .type "list", data := .seq ([] : List Value).toArray }).get? s.heap.objs.size = some { cls := .type "list", data := .seq #[] } := Heap.get?_push_size _ rfl
  have hSf : H0 s.heap.objs.size = none := B.inv.hok.fresh (Nat.le_refl _)
  show wpAny _ A.in1 (Builtin.List.listExtendWith (.ref s.heap.objs.size) (.ref z) (.ref s.heap.objs.size)) _ _ _
  have key := zb_extend (A := A) (R := fun (q : Result) (s' : Shared) => ∃ (as : List Addr) (H1 : Hp) (acc : Array Value) (c : Nat), q = .ok (.ret (.ref s.heap.objs.size)) ∧ Tells H0 (xs.zip ys) as H1 ∧ Inv X pins σ H1 s' ∧ s'.heap.get? s.heap.objs.size = some { cls := .type "list", dict := none, data := .seq acc c, slots := #[] } ∧ acc.toList = as.map Value.ref)
    hh (B.push (t' := s.toks) (h' := s.heap.push { cls := .type "list", data := .seq ([] : List Value).toArray }) (by rw [Heap.size_push]; exact Nat.le_succ _) fun c o e => Heap.get?_push_of_some _ e) B.lt hSf (.ref s.heap.objs.size) _ hS fun s' as H1 acc c t I hn hfp hSl hacc => ⟨as, H1, acc, c, rfl, t, I, hSl, hacc⟩
  refine wpAny_mono key (fun fin s' x => ?_) fun e s' x => ?_
  · cases fin with
    | done f =>
      obtain ⟨as, H1, acc, c, e, t, I, hSl, hacc⟩ := x
      cases e
      show wpAny _ A (load s.heap.objs.size >>= _) _ _ _
      refine wpAny_bind (wpAny_load hSl ?_)
      refine wpAny_pure ?_
      show Q acc.toList _
      rw [hacc]
      exact hQ _ as H1 t I
    | again c₁ =>
      refine ⟨x.1, codeAny_mono x.2 fun q s₂ y => ?_⟩
      obtain ⟨as, H1, acc, c, rfl, t, I, hSl, hacc⟩ := y
      show wpAny _ A (load s.heap.objs.size >>= _) _ _ _
      refine wpAny_bind (wpAny_load hSl ?_)
      refine wpAny_pure ?_
      show Q acc.toList _
      rw [hacc]
      exact hQ _ as H1 t I
  · obtain ⟨_, _, _, _, e', _⟩ := x
    cases e'
theorem ZB.typeIs {z : Addr} (B : ZB X pins σ H0 s z a b xs ys its1 its2) : s.TypeIs (.ref z) "zip" := by
  obtain ⟨N, rfl, ha, hb, hN, q1, _⟩ := B.st
  exact ⟨_, q1, rfl⟩
theorem zb_new {z : Addr} {Q₁ : Value → Shared → Prop} {E : Value → Shared → Prop} (hh : A.handled = none) (B : ZB X pins σ H0 s z a b xs ys its1 its2)
    (hQ : ∀ (s' : Shared) (as : List Addr) (H1 : Hp) (T : Addr), Tells H0 (xs.zip ys) as H1 → H1 T = none → Inv X pins σ (upd H1 T (.tup (as.map V.ref))) s' → s'.TypeIs (.ref T) "tuple" → Q₁ (.ref T) s') :
    codeAny (model X.prog X.w) A (.call (.builtin "tuple.__new__") ⟨[.type "tuple", .ref z], []⟩) (wants Q₁ E) s := by
  refine codeAny_of_tree ?_
  show wpAny _ A.in1 (do checkBuiltinCall "tuple.__new__" ⟨[.type "tuple", .ref z], []⟩; again (.builtin "tuple.__new__" ⟨[.type "tuple", .ref z], []⟩)) _ _ s
  refine wpAny_bind (wpAny_of_eq (F.newCall_tuple_1 _) (wpAny_pure ⟨plainId_quiet F.plain_tuple_new _, codeAny_builtin F.entry_tuple_new ?_⟩))
  rw [Around.under_plainId F.plain_tuple_new _]
  have hsub := sub_tuple_self
  have hinit := init_tuple_lookup
  have hmh := madeHere_tuple
  have hTI : s.TypeIs (.ref z) "zip" := B.typeIs
  have hh1 : A.in1.handled = none := hh
  wp_walk using wpAny_typeOf hTI, zb_collect (A := A.in1) hh1 B
  intro s' as H1 t I
  have hl : as.length = (xs.zip ys).length := t.len
  have hle : as.length ≤ sizeLine := by
    rw [hl, List.length_zip]
    exact Nat.le_trans (Nat.min_le_left ..) B.sz
  show wpAny _ _ (Builtin.Tuple.tupleExact (as.map Value.ref).toArray >>= fun v => ret v) _ _ _
  unfold Builtin.Tuple.tupleExact
  refine wpAny_bind (wpAny_newObj_type ?_ (by show (as.map Value.ref).toArray.size ≤ sizeLine; rw [List.size_toArray, List.length_map]; exact hle))
  refine wpAny_pure ?_
  have I2 : Inv X pins σ (upd H1 s'.heap.objs.size (.tup (as.map V.ref))) { s' with heap := s'.heap.push { cls := .type "tuple", data := .seq (as.map Value.ref).toArray } } :=
    I.laid (t' := s'.toks) (fun b o e => Heap.get?_push_of_some _ e) (Nat.le_refl _) (show ObjOk X.prog X.w _ _ _ (.tup (as.map V.ref)) from ⟨by rw [List.length_map]; exact hle, _, vals_refs as, IsTup.new _ _⟩)
  exact hQ _ as H1 _ t (I.hok.fresh (Nat.le_refl _)) I2 ⟨_, Heap.get?_push_size _ rfl, rfl⟩
theorem zb_tuple {z : Addr} {Q : Value → Shared → Prop} {E : Value → Shared → Prop} (hh : A.handled = none) (B : ZB X pins σ H0 s z a b xs ys its1 its2)
    (hQ : ∀ (s' : Shared) (as : List Addr) (H1 : Hp) (T : Addr), Tells H0 (xs.zip ys) as H1 → H1 T = none → Inv X pins σ (upd H1 T (.tup (as.map V.ref))) s' → Q (.ref T) s') :
    wpAny (model X.prog X.w) A (call (.type "tuple") [.ref z]) Q E s := by
  refine callType_codes (Q₁ := fun obj s₁ => s₁.TypeIs obj "tuple" ∧ Q obj s₁) F.called_tuple (F.typeCall_tuple_1 _) F.entry_object_init
    (zb_new (A := A.in1) hh B fun s' as H1 T t hn I ty => ⟨ty, hQ s' as H1 T t hn I⟩) fun obj s₁ h₁ => ?_
  exact ⟨h₁.1, F.args_object_init_2 obj _, object_init_meets F.called_tuple.init.lookup F.called_tuple.made (by decide) X.prog X.w A.in1 _ s₁ ⟨h₁.1, rfl, h₁.2⟩⟩
end
/-! ### tuple(zip(xs, ys)), list(zip(xs, ys)), of two tuples -/
def tZip (K : PySem.W.Frag) (mk : List V → HO) (ta : TA) : TE := fun σ H Q => ta σ H fun vs H1 => ∃ a b xs ys, vs = [.ref a, .ref b] ∧ SqT K H1 a xs ∧ SqT K H1 b ys ∧ ∀ as H2 T, Tells H1 (xs.zip ys) as H2 → H2 T = none → Q (.ref T) (upd H2 T (mk (as.map V.ref)))
section
variable {X : Cx} {e1 e2 : Expr} {ta : TA} {p p2 pos pos2 : Pos}
theorem zip_made {pins : List (Addr × Obj)} {σ : L2.St} {H : Hp} {s : Shared} {Q : Value → Shared → Prop} (hg : Gl X "zip") (hm : X.mg "zip" = none) (ha : PA X [e1, e2] ta) (I : Inv X pins σ H s) {K : List V → Hp → Prop} (h : ta σ H K)
    (hs : starEach [e1, e2] X.env = (false, eval e1 X.env) :: starEach [e2] X.env) (hpl : (backTo pos2 (starEach [e2] X.env)).any (·.1) = false)
    (hQ : ∀ (s' : Shared) (H1 : Hp) (vs : List V), K vs H1 → ∀ a b xs ys, vs = [.ref a, .ref b] → SqT X.K H1 a xs → SqT X.K H1 b ys → ∀ z its1 its2, ZB X pins σ H1 s' z a b xs ys its1 its2 → Q (.ref z) s')
    (hk : ∀ H1 vs, K vs H1 → ∃ a b xs ys, vs = [.ref a, .ref b] ∧ SqT X.K H1 a xs ∧ SqT X.K H1 b ys) :
    wpAny (model X.prog X.w) X.A (eval (.Call (.Name "zip" p2) [e1, e2] [] pos2) X.env) Q X.xe s := by
  refine Call_ (ld_blt I hg hm PyProof.Rows.boot_zip (PyProof.Rows.callWith_type1 (thn (ha.run pos2 pins s σ H _ I h) fun us s1 ⟨vs, H1, I1, r1, q1⟩ => ?_) hs hpl))
  obtain ⟨a, b, xs, ys, ex, ha1, hb1⟩ := hk H1 vs q1
  subst ex
  cases r1 with
  | cons r rr =>
    cases rr with
    | cons r' rr =>
      cases rr
      cases r
      cases r'
      obtain ⟨its1, rv1, p1, hz1⟩ := I1.tuple ha1
      obtain ⟨its2, rv2, p2', hz2⟩ := I1.tuple hb1
      have p1 : s1.heap.IsTuple a its1.toArray := p1
      have p2' : s1.heap.IsTuple b its2.toArray := p2'
      have la : a < s1.heap.objs.size := by obtain ⟨o, ho, _⟩ := id p1; exact Heap.lt_size ho
      have lb : b < s1.heap.objs.size := by obtain ⟨o, ho, _⟩ := id p2'; exact Heap.lt_size ho
      refine zip_begins2 (begins_tuple a its1.toArray) (begins_tuple b its2.toArray) p1 p2' fun h' hz hTI hTO g1 g2 hsz hk => ?_
      refine hQ { s1 with heap := h' } H1 _ q1 a b xs ys rfl ha1 hb1 _ its1 its2 ⟨I1.kept (t' := s1.toks) hk, rv1, rv2, hz1, ⟨s1.heap.objs.size, rfl, la, lb, Nat.le_of_eq hsz.symm, hz, ⟨_, _, hTO⟩, hTI, ⟨⟨_, g1, rfl, rfl⟩, p1.at fun o e => hk _ o e⟩, ⟨⟨_, g2, rfl, rfl⟩, p2'.at fun o e => hk _ o e⟩, fun H c hc hn => I1.fpOk hc hn⟩, fun c hc _ => I1.hok.fresh (Nat.le_of_add_le_add_right hc)⟩
theorem pe_tupZip (hcalm : X.calm = true) (hg : Gl X "tuple") (hm : X.mg "tuple" = none) (hgz : Gl X "zip") (hmz : X.mg "zip" = none) (ha : PA X [e1, e2] ta)
    (hs : starEach [e1, e2] X.env = (false, eval e1 X.env) :: starEach [e2] X.env := by rfl) (hpl : (backTo pos2 (starEach [e2] X.env)).any (·.1) = false := by rfl)
    (he : starEach [.Call (.Name "zip" p2) [e1, e2] [] pos2] X.env = (false, eval (.Call (.Name "zip" p2) [e1, e2] [] pos2) X.env) :: starEach [] X.env := by rfl) :
    PE X (.Call (.Name "tuple" p) [.Call (.Name "zip" p2) [e1, e2] [] pos2] [] pos) (tZip X.K .tup ta) := by
  refine ⟨fun pins s σ H Q I h => Call_ (ld_blt I hg hm PyProof.Rows.boot_tuple (PyProof.Rows.callWith_type1 ?_ he (by rfl)))⟩
  rw [he]
  refine Calls.spliced_cons (zip_made hgz hmz ha I h hs hpl (fun s' H1 vs q a b xs ys ev ha1 hb1 z its1 its2 B => ?_) fun H1 vs ⟨a, b, xs, ys, e, h1, h2, _⟩ => ⟨a, b, xs, ys, e, h1, h2⟩)
  obtain ⟨a', b', xs', ys', e', h1', h2', q⟩ := q
  rw [ev] at e'
  cases e'
  refine Calls.spliced_nil (zb_tuple (B.inv.ok.hd hcalm) B fun s2 as H2 T t hn I2 => ⟨.ref T, _, I2, rfl, ?_⟩)
  cases B.inv.tuple_inj ha1 h1'
  cases B.inv.tuple_inj hb1 h2'
  exact q as H2 T t hn
theorem pe_lstZip (hcalm : X.calm = true) (hg : Gl X "list") (hm : X.mg "list" = none) (hgz : Gl X "zip") (hmz : X.mg "zip" = none) (ha : PA X [e1, e2] ta)
    (hs : starEach [e1, e2] X.env = (false, eval e1 X.env) :: starEach [e2] X.env := by rfl) (hpl : (backTo pos2 (starEach [e2] X.env)).any (·.1) = false := by rfl)
    (he : starEach [.Call (.Name "zip" p2) [e1, e2] [] pos2] X.env = (false, eval (.Call (.Name "zip" p2) [e1, e2] [] pos2) X.env) :: starEach [] X.env := by rfl) :
    PE X (.Call (.Name "list" p) [.Call (.Name "zip" p2) [e1, e2] [] pos2] [] pos) (tZip X.K .lst ta) := by
  refine ⟨fun pins s σ H Q I h => Call_ (ld_blt I hg hm PyProof.Rows.boot_list (PyProof.Rows.callWith_type1 ?_ he (by rfl)))⟩
  rw [he]
  refine Calls.spliced_cons (zip_made hgz hmz ha I h hs hpl (fun s' H1 vs q a b xs ys ev ha1 hb1 z its1 its2 B => ?_) fun H1 vs ⟨a, b, xs, ys, e, h1, h2, _⟩ => ⟨a, b, xs, ys, e, h1, h2⟩)
  obtain ⟨a', b', xs', ys', e', h1', h2', q⟩ := q
  rw [ev] at e'
  cases e'
  refine Calls.spliced_nil (zb_list (B.inv.ok.hd hcalm) B fun s2 as H2 T t hn I2 => ⟨.ref T, _, I2, rfl, ?_⟩)
  cases B.inv.tuple_inj ha1 h1'
  cases B.inv.tuple_inj hb1 h2'
  exact q as H2 T t hn
end
end DZ
namespace DL
open PySem PySem.Spec PyProof.Rows L2 DZ
variable [Tabs]
/-! ### tuple(zip(xs, ys)), list(zip(xs, ys)) -/
def zipD (xs ys : List PyData) : List PyData := (xs.zip ys).map fun p => .tuple [p.1, p.2]
inductive PRel (K : PySem.W.Frag) (F : Sto) (H : Hp) : List (V × V) → List (PyData × PyData) → Prop
  | nil : PRel K F H [] []
  | cons {p d ps ds} : Dv K F H p.1 d.1 → Dv K F H p.2 d.2 → PRel K F H ps ds → PRel K F H (p :: ps) (d :: ds)
theorem PRel.snoc {K : PySem.W.Frag} {F : Sto} {H : Hp} : ∀ {ps : List (V × V)} {p : V × V} {ds : List (PyData × PyData)}, PRel K F H (ps ++ [p]) ds → ∃ ds' d, ds = ds' ++ [d] ∧ PRel K F H ps ds' ∧ Dv K F H p.1 d.1 ∧ Dv K F H p.2 d.2
  | [], _, _, .cons a b .nil => ⟨[], _, rfl, .nil, a, b⟩
  | _ :: _, _, _, .cons a b r => by
    obtain ⟨ds', d, e, r', q⟩ := PRel.snoc r
    exact ⟨_ :: ds', d, by rw [e]; rfl, .cons a b r', q⟩
theorem PRel.zip {K : PySem.W.Frag} {F : Sto} {H : Hp} : ∀ {xs ys : List V} {ds es : List PyData}, Dvs K F H xs ds → Dvs K F H ys es → PRel K F H (xs.zip ys) (ds.zip es)
  | [], _, _, _, .nil, _ => by rw [List.zip_nil_left, List.zip_nil_left]; exact .nil
  | _ :: _, [], _, _, .cons _ _, .nil => .nil
  | _ :: _, _ :: _, _, _, .cons a r, .cons b q => .cons a b (PRel.zip r q)
theorem tells_data {K : PySem.W.Frag} {st hid : Sto} {H H' : Hp} {ps : List (V × V)} {as : List Addr} (t : Tells H ps as H') (S : Sx K st hid H) : ∀ {ds : List (PyData × PyData)}, PRel K (jn st hid) H ps ds →
    FrX st hid H st H' ∧ Sx K st hid H' ∧ Dvs K (jn st hid) H' (as.map V.ref) (ds.map fun p => .tuple [p.1, p.2]) := by
  induction t with
  | nil =>
    intro ds r
    cases r
    exact ⟨Fr.refl _ _, S, .nil⟩
  | @snoc _ _ _ pq _ t hT ih =>
    intro ds r
    obtain ⟨ds', d, rfl, r', r1, r2⟩ := r.snoc
    obtain ⟨F1, S1, q⟩ := ih r'
    have F2 := fr_new (st := jn st hid) (o := .tup [pq.1, pq.2]) hT
    refine ⟨Fr.trans F1 F2, S1.new hT, ?_⟩
    rw [List.map_append, List.map_append]
    refine (q.mono F2 S1.sr).append (.cons (.tup (.inl (.inl upd_same)) (.cons ((r1.mono F1 S.sr).mono F2 S1.sr) (.cons ((r2.mono F1 S.sr).mono F2 S1.sr) .nil))) .nil)
def dTupZip (t : TAd) : TEd := fun e st Q => t e st fun ds st1 => match ds with
  | [.d (.tuple xs), .d (.tuple ys)] => Q (.d (.tuple (zipD xs ys))) st1
  | _ => False
def dLstZip (t : TAd) : TEd := fun e st Q => t e st fun ds st1 => match ds with
  | [.d (.tuple xs), .d (.tuple ys)] => mkL ((zipD xs ys).map D.d) st1 Q
  | _ => False
theorem dvsD_of {K : PySem.W.Frag} {F : Sto} {H : Hp} : ∀ {vs : List V} {xs : List PyData}, Dvs K F H vs xs → DvsD K F H vs (xs.map D.d)
  | _, _, .nil => .nil
  | _, _, .cons a r => .cons (.d a) (dvsD_of r)
section
variable {X : Cx} {e1 e2 : Expr} {t : TAd} {p p2 pos pos2 : Pos}
theorem pd_tupZip (hcalm : X.calm = true) (hg : Gl X "tuple") (hm : X.mg "tuple" = none) (hgz : Gl X "zip") (hmz : X.mg "zip" = none) (ha : PDA X [e1, e2] t)
    (hs : starEach [e1, e2] X.env = (false, eval e1 X.env) :: starEach [e2] X.env := by rfl) (hpl : (backTo pos2 (starEach [e2] X.env)).any (·.1) = false := by rfl)
    (he : starEach [.Call (.Name "zip" p2) [e1, e2] [] pos2] X.env = (false, eval (.Call (.Name "zip" p2) [e1, e2] [] pos2) X.env) :: starEach [] X.env := by rfl) :
    PD X (.Call (.Name "tuple" p) [.Call (.Name "zip" p2) [e1, e2] [] pos2] [] pos) (dTupZip t) :=
  PE.imp (pe_tupZip hcalm hg hm hgz hmz ha hs hpl he) fun σ H Q ⟨e, st, hid, Qd, re, S, h, k⟩ => ⟨e, st, hid, _, re, S, h, fun vs H1 ds st1 F1 S1 r q => by
    split at q
    · cases r with
      | cons r1 r =>
        cases r with
        | cons r2 r =>
          cases r
          obtain ⟨a, xs, rfl, h1, q1⟩ := tup_at r1
          obtain ⟨b, ys, rfl, h2, q2⟩ := tup_at r2
          refine ⟨a, b, xs, ys, rfl, h1, h2, fun as H2 T tl hT => ?_⟩
          obtain ⟨F2, S2, r3⟩ := tells_data tl S1 (PRel.zip q1 q2)
          exact ((k.mono F1).mono F2).new S2 hT (.d (.tup (.inl (.inl upd_same)) (r3.mono (fr_new hT) S2.sr))) q
    · exact q.elim⟩
theorem pd_lstZip (hcalm : X.calm = true) (hg : Gl X "list") (hm : X.mg "list" = none) (hgz : Gl X "zip") (hmz : X.mg "zip" = none) (ha : PDA X [e1, e2] t)
    (hs : starEach [e1, e2] X.env = (false, eval e1 X.env) :: starEach [e2] X.env := by rfl) (hpl : (backTo pos2 (starEach [e2] X.env)).any (·.1) = false := by rfl)
    (he : starEach [.Call (.Name "zip" p2) [e1, e2] [] pos2] X.env = (false, eval (.Call (.Name "zip" p2) [e1, e2] [] pos2) X.env) :: starEach [] X.env := by rfl) :
    PD X (.Call (.Name "list" p) [.Call (.Name "zip" p2) [e1, e2] [] pos2] [] pos) (dLstZip t) :=
  PE.imp (pe_lstZip hcalm hg hm hgz hmz ha hs hpl he) fun σ H Q ⟨e, st, hid, Qd, re, S, h, k⟩ => ⟨e, st, hid, _, re, S, h, fun vs H1 ds st1 F1 S1 r q => by
    split at q
    · cases r with
      | cons r1 r =>
        cases r with
        | cons r2 r =>
          cases r
          obtain ⟨a, xs, rfl, h1, q1⟩ := tup_at r1
          obtain ⟨b, ys, rfl, h2, q2⟩ := tup_at r2
          refine ⟨a, b, xs, ys, rfl, h1, h2, fun as H2 T tl hT => ?_⟩
          obtain ⟨F2, S2, r3⟩ := tells_data tl S1 (PRel.zip q1 q2)
          exact mkL_go q S2 hT (dvsD_of r3) ((k.mono F1).mono F2)
    · exact q.elim⟩
end
end DL
namespace DL
open PySem PySem.Spec PyProof.Rows L2
variable [Tabs]
/-! ### [elt for x in a for y in b] -/
def dLc2 (M : List D → Sto → Kd → Prop) (ti : TId) (i : Nat) (ti1 : TId) (i1 : Nat) (te : TEd) : TEd := fun e st Q => ti e st fun it st1 => ∃ W : Nat → List D → Sto → Prop, W 0 [] st1 ∧ ∀ j acc st2, W j acc st2 → it.at st2 ∧ (it.xs.length ≤ j → M acc st2 Q) ∧
  ∀ d, it.xs[j]? = some d → ti1 ((e.set i1 none).set i (some d)) st2 fun it1 st3 => ∃ W1 : Nat → List D → Sto → Prop, W1 0 acc st3 ∧ ∀ j1 acc1 st4, W1 j1 acc1 st4 → it1.at st4 ∧ (it1.xs.length ≤ j1 → W (j + 1) acc1 st4) ∧
    ∀ d1, it1.xs[j1]? = some d1 → te (((e.set i1 none).set i (some d)).set i1 (some d1)) st4 fun y st5 => acc1.length < sizeLine ∧ W1 (j1 + 1) (acc1 ++ [y]) st5
theorem wipe2 {α : Type} (σ : List (Option α)) (i i1 : Nat) (x : Option α) : (((((σ.set i1 none).set i none).set i x).set i1 none).set i none) = (σ.set i1 none).set i none := by
  by_cases e : i = i1
  · subst e
    simp only [List.set_set]
  · rw [List.set_set, List.set_comm _ _ e, List.set_set, List.set_set]
theorem RE.none1 {K : PySem.W.Frag} {F : Sto} {H : Hp} {σ : L2.St} {e : Ed} (re : RE K F H σ e) (i : Nat) : RE K F H (σ.set i none) (e.set i none) := by
  refine ⟨by rw [List.length_set, List.length_set]; exact re.1, fun j x h => ?_⟩
  by_cases ej : i = j
  · subst ej
    rw [List.getElem?_set] at h
    simp at h
  · rw [List.getElem?_set_ne ej] at h ⊢
    exact re.at_ j x h
theorem pd_lc2 {X : Cx} {M : List D → Sto → Kd → Prop} (hM : ∀ ds st Q, M ds st Q → mkL ds st Q) {elt iter iter1 : Expr} {scope : Scope} {y y1 : Str} {i i1 : Nat} {py py1 pos : Pos} {ti ti1 : TId} {te : TEd} (hc : X.calm = true) (hN : X.N.Nodup) (hi : PDI X (.Name y py) iter ti) (ok : BlkOk X.N X.env.scope scope [(y, i), (y1, i1)])
    (hg : ∀ (s : Shared) (H : Hp) (C : Addr) (cl : List (Str × Addr)) (fp : List Addr), PG (X.blk s H scope (compEnvC scope cl C X.env) fp) (.Name y py) (gName i))
    (hi1 : ∀ (s : Shared) (H : Hp) (C : Addr) (cl : List (Str × Addr)) (fp : List Addr), PDI (X.blk s H scope (compEnvC scope cl C X.env) fp) (.Name y1 py1) iter1 ti1)
    (hg1 : ∀ (s : Shared) (H : Hp) (C : Addr) (cl : List (Str × Addr)) (fp : List Addr), PG (X.blk s H scope (compEnvC scope cl C X.env) fp) (.Name y1 py1) (gName i1))
    (he : ∀ (s : Shared) (H : Hp) (C : Addr) (cl : List (Str × Addr)) (fp : List Addr), PD (X.blk s H scope (compEnvC scope cl C X.env) fp) elt te) (hs : ∀ x, foldedSetIterable iter X.env x = pure x := by intro _; rfl) (hs1 : ∀ env x, foldedSetIterable iter1 env x = pure x := by intro _ _; rfl) :
    PD X (.ListComp elt [⟨.Name y py, iter, [], 0⟩, ⟨.Name y1 py1, iter1, [], 0⟩] scope pos) (dLc2 M ti i ti1 i1 te) :=
  PE.imp (pe_lc2 (own := [(y, i), (y1, i1)]) (vs1 := [i1]) (wi := upI X.K ti) (g := gName i) (tt := upT X.K dYes) (wi1 := upI X.K ti1) (g1 := gName i1) (tt1 := upT X.K dYes) (te := up X.K te) hc hN hi ok (by simp) hg (fun s H C cl fp => pdts_nil) hi1 hg1 (fun s H C cl fp => pdts_nil) he hs hs1) fun σ H Q ⟨e, st, hid, Qd, re, S, h, k⟩ => by
    refine ⟨e, st, hid, _, re, S, h, fun J H1 it st1 F1 S1 ok1 at1 ⟨W, w0, turn⟩ p hp => ?_⟩
    have n1 := jn_free (S1.sr.free0 hp)
    have hn : hid p = none := n1.2
    refine ⟨fun j m H2 => m = it.xs.length - j ∧ ∃ acc st2, W j acc st2 ∧ Sx X.K (put st2 p acc) hid H2 ∧ st2 p = none ∧ Fr (jn (put st1 p []) hid) (upd H1 p (.lst [])) (jn (put st2 p acc) hid) H2, ⟨it.xs.length, by simp, [], st1, w0, S1.own hp .nil, n1.1, Fr.refl _ _⟩, ?_⟩
    rintro j m H2 ⟨rfl, acc, st2, w2, S2, n2, F2⟩
    obtain ⟨at2, done, go⟩ := turn j acc st2 w2
    have eqF : jn st2 (put hid p acc) = jn (put st2 p acc) hid := jn_swap n2
    have F12 : Fr (jn st1 hid) H1 (jn (put st2 p acc) hid) H2 := Fr.trans (fx_own hp) F2
    have F02 : Fr (jn st hid) H (jn (put st2 p acc) hid) H2 := Fr.trans F1 F12
    have off : ∀ {st2 : Sto} {acc : List D} {it : ItD}, st2 p = none → it.at st2 → it.at (jn (put st2 p acc) hid) := fun {st2 acc it} n2 at2 a ds z => by
      have e1 := at2 a ds z
      have ne : a ≠ p := fun z' => by
        rw [z', n2] at e1
        cases e1
      exact jn_some (by rw [put_ne ne]; exact e1)
    have It := ok1 j _ H2 F12 S2.sr (off n2 at2)
    by_cases hj : it.xs.length ≤ j
    · refine .inl ⟨It.2 hj, ?_⟩
      obtain ⟨vs, hv, rv⟩ := S2.at_ put_same (F2.ls _ [] upd_same)
      rcases hM _ _ _ (done hj) with ⟨xs, ep, q⟩ | q
      · have ea := pures_eq ep
        subst ea
        obtain ⟨Sc, Fc, fc⟩ := S2.frz put_same
        have ec : cut (put st2 p (xs.map D.d)) p = st2 := by
          funext b
          by_cases eb : b = p
          · rw [eb, cut_same, n2]
          · rw [cut_ne eb, put_ne eb]
        rw [ec] at Sc Fc fc
        exact k _ H2 _ st2 (Fr.trans F02 Fc) Sc (.d (.lst hv fc ((Dvs.of rv).mono Fc S2.sr))) q
      · exact k _ H2 _ _ F02 S2 (.own _ ⟨_, hv⟩) (q _ n2)
    · have hlt : j < it.xs.length := Nat.lt_of_not_le hj
      have ed : it.xs[j]? = some it.xs[j] := List.getElem?_eq_getElem hlt
      obtain ⟨g1, g2⟩ := It.1 _ ed
      refine .inr ⟨g1, fun H' => ∃ acc' st', W (j + 1) acc' st' ∧ Sx X.K (put st' p acc') hid H' ∧ st' p = none ∧ Fr (jn (put st1 p []) hid) (upd H1 p (.lst [])) (jn (put st' p acc') hid) H', fun H' ⟨acc', st', h1, h2, h3, h4⟩ => ⟨it.xs.length - (j + 1), by omega, rfl, acc', st', h1, h2, h3, h4⟩, fun x H3 hy => ?_⟩
      obtain ⟨F23, S3r, rx⟩ := g2 x H3 hy
      have S3 : Sx X.K (put st2 p acc) hid H3 := S2.go F23 S3r
      have S3h := S3.hide n2
      have F03 := Fr.trans F02 F23
      have reX : RE X.K (jn st2 (put hid p acc)) H3 ((wipe σ [i, i1]).set i (some x)) ((e.set i1 none).set i (some it.xs[j])) := by
        rw [eqF]
        show RE X.K _ H3 (((σ.set i1 none).set i none).set i (some x)) _
        rw [set_none_set]
        exact (((re.mono F03 S.sr).none1 i1)).set rx
      show wipe ((wipe σ [i, i1]).set i (some x)) [i, i1] = wipe σ [i, i1] ∧ upT X.K dYes ((wipe σ [i, i1]).set i (some x)) H3 _
      refine ⟨wipe2 σ i i1 (some x), ⟨_, st2, put hid p acc, _, reX, S3h, (show dYes _ _ (fun b st3 => b = true ∧ st3 = st2) from ⟨rfl, rfl⟩), fun b H4 st4 F4 S4 ⟨q4, q5⟩ => ?_⟩⟩
      subst q4 q5
      refine iteT ?_
      refine ⟨_, st4, put hid p acc, _, reX.mono F4 S3h.sr, S4, go _ ed, fun J1 H5 it1 st5 F5 S5 ok5 at5 ⟨W1, w10, turn1⟩ => ?_⟩
      obtain ⟨S5', n5⟩ := S5.shown hn
      have eq5 : jn st5 (put hid p acc) = jn (put st5 p acc) hid := jn_swap n5
      have F3X : Fr (jn (put st1 p []) hid) (upd H1 p (.lst [])) (jn st4 (put hid p acc)) H4 := by
        have F4' : Fr (jn st4 (put hid p acc)) H3 (jn st4 (put hid p acc)) H4 := F4
        rw [eqF] at F4' ⊢
        exact Fr.trans F2 (Fr.trans F23 F4')
      have F15 : Fr (jn (put st1 p []) hid) (upd H1 p (.lst [])) (jn (put st5 p acc) hid) H5 := by
        rw [← eq5]
        exact Fr.trans F3X F5
      refine ⟨fun j1 m H6 => m = it1.xs.length - j1 ∧ ∃ acc1 st6, W1 j1 acc1 st6 ∧ Sx X.K (put st6 p acc1) hid H6 ∧ st6 p = none ∧ Fr (jn (put st5 p acc) hid) H5 (jn (put st6 p acc1) hid) H6, ⟨it1.xs.length, by simp, acc, st5, w10, S5', n5, Fr.refl _ _⟩, ?_⟩
      rintro j1 m1 H6 ⟨rfl, acc1, st6, w6, S6, n6, F6⟩
      obtain ⟨at6, done1, go1⟩ := turn1 j1 acc1 st6 w6
      have It1 := ok5 j1 _ H6 (by rw [eq5]; exact F6) S6.sr (off n6 at6)
      have F16 := Fr.trans F15 F6
      by_cases hj1 : it1.xs.length ≤ j1
      · exact .inl ⟨It1.2 hj1, acc1, st6, done1 hj1, S6, n6, F16⟩
      · have hlt1 : j1 < it1.xs.length := Nat.lt_of_not_le hj1
        have ed1 : it1.xs[j1]? = some it1.xs[j1] := List.getElem?_eq_getElem hlt1
        obtain ⟨g1', g2'⟩ := It1.1 _ ed1
        refine .inr ⟨g1', fun H' => ∃ acc' st', W1 (j1 + 1) acc' st' ∧ Sx X.K (put st' p acc') hid H' ∧ st' p = none ∧ Fr (jn (put st5 p acc) hid) H5 (jn (put st' p acc') hid) H', fun H' ⟨acc', st', h1, h2, h3, h4⟩ => ⟨it1.xs.length - (j1 + 1), by omega, rfl, acc', st', h1, h2, h3, h4⟩, fun x1 H7 hy1 => ?_⟩
        obtain ⟨F67, S7r, rx1⟩ := g2' x1 H7 hy1
        have S7 : Sx X.K (put st6 p acc1) hid H7 := S6.go F67 S7r
        have S7h := S7.hide n6
        have eq6 : jn st6 (put hid p acc1) = jn (put st6 p acc1) hid := jn_swap n6
        have F57 : Fr (jn (put st5 p acc) hid) H5 (jn (put st6 p acc1) hid) H7 := Fr.trans F6 F67
        have S3x : SR X.K (jn st4 (put hid p acc)) H4 := S4.sr
        have re1 : RE X.K (jn (put st6 p acc1) hid) H7 ((wipe σ [i, i1]).set i (some x)) ((e.set i1 none).set i (some it.xs[j])) := by
          have r4 := (reX.mono F4 S3h.sr).mono F5 S4.sr
          rw [eq5] at r4
          exact r4.mono F57 S5'.sr
        have reY : RE X.K (jn st6 (put hid p acc1)) H7 ((wipe ((wipe σ [i, i1]).set i (some x)) [i1]).set i1 (some x1)) (((e.set i1 none).set i (some it.xs[j])).set i1 (some it1.xs[j1])) := by
          rw [eq6]
          show RE X.K _ H7 ((((wipe σ [i, i1]).set i (some x)).set i1 none).set i1 (some x1)) _
          rw [set_none_set]
          exact re1.set rx1
        show wipe ((wipe ((wipe σ [i, i1]).set i (some x)) [i1]).set i1 (some x1)) [i1] = wipe ((wipe σ [i, i1]).set i (some x)) [i1] ∧ upT X.K dYes ((wipe ((wipe σ [i, i1]).set i (some x)) [i1]).set i1 (some x1)) H7 _
        refine ⟨by
          show (((((wipe σ [i, i1]).set i (some x)).set i1 none).set i1 (some x1)).set i1 none) = ((wipe σ [i, i1]).set i (some x)).set i1 none
          rw [List.set_set, List.set_set], ⟨_, st6, put hid p acc1, _, reY, S7h, (show dYes _ _ (fun b st3 => b = true ∧ st3 = st6) from ⟨rfl, rfl⟩), fun b H8 st8 F8 S8 ⟨q8, q9⟩ => ?_⟩⟩
        subst q8 q9
        refine iteT ?_
        refine ⟨_, st8, put hid p acc1, _, reY.mono F8 S7h.sr, S8, go1 _ ed1, fun v H9 d st9 F9 S9 r9 ⟨hz, w9⟩ => ?_⟩
        obtain ⟨S9', n9⟩ := S9.shown hn
        obtain ⟨vs, hv, rv⟩ := S9'.at_ put_same (let ⟨_, z5⟩ := F15.ls _ [] upd_same; let ⟨_, z7⟩ := F57.ls _ _ z5; let ⟨_, z8⟩ := F8.ls _ _ z7; F9.ls _ _ z8)
        rw [jn_swap n9] at r9
        refine ⟨vs, hv, by rw [Paired.length rv]; exact hz, acc1 ++ [d], st9, w9, ?_, n9, ?_⟩
        · have := S9'.store (es := acc1 ++ [d]) put_same (DvsD.snoc rv r9)
          rw [put_put] at this
          exact this
        · have Fa : Fr (jn (put st5 p acc) hid) H5 (jn (put st9 p acc1) hid) H9 := by
            rw [← jn_swap n9]
            refine Fr.trans F57 ?_
            rw [← eq6]
            exact Fr.trans F8 F9
          exact Fr.late Fa (by rw [jn_some put_same]; exact fun z => nomatch z)
end DL
namespace DL
open PySem PySem.Spec PyProof.Rows L2 DG
variable [Tabs]
/-! ### defs with generator expressions: their code objects -/
structure HasT (K : PySem.W.Frag) (mg : Str → Option Value) (base : Heap) (x : Str) (st : Stmt) : Prop where
  ex : ∃ f fd c PT, mg x = some (.ref f) ∧ Fun K x x st f fd ∧ fd.code = .ref c ∧ PT ∈ (Tabs.tp : List Addr) ∧ GxR.TabB base mg c PT
section
variable {P : Program} {w : World} {K : PySem.W.Frag} {mg : Str → Option Value} {base : Heap}
theorem fnD_okT {x qual : Str} {st : Stmt} {f c : Addr} {fd : FuncData} {N ps : List Str} {k : Nat} {sp : SpD} {t : TSd} (F : Fun K x qual st f fd) (hc : fd.code = .ref c) (S : FnScope N ps (defScope st)) (len : ∀ ds s Q, sp ds s Q → ds.length = ps.length)
    (hbody : ∀ (A : Around) (outer : List Env) (s : Shared) (H : Hp) (E : XK), A.guards = some [] → Room k (A.deeper (envOfC qual (defScope st) s.heap.objs.size f (.ref c))) → PDSs (cxD P w K mg base N qual (defScope st) f (.ref c) A outer s H E) (defBody st) t)
    (hsp : ∀ ds s Q, sp ds s Q → t { nx := fun _ s' => Q (.d .none) s', rt := Q } (startD N ds) s) : FnD P w K mg base (k + 1) f fd ps sp := by
  obtain ⟨oc, od, kV, doc, pm, an, cd, ct, osl, rfl, lk, hcd⟩ := F.ex
  have ec : cd = .ref c := hc
  subst ec
  have lenV : ∀ vs H Q E, upSp K sp vs H Q E → vs.length = ps.length := fun vs H Q E ⟨ds, s, hid, Qd, r, _, h, _⟩ => (Paired.length r).trans (len ds s Qd h)
  refine ⟨lenV, fun A outer s H args us vs Q E hg hr e0 hb r hq => ?_⟩
  have KX : K.In s.heap := e0.mod.kin.keeps fun b o e => (e0.bs b o e).1
  have lim : s.heap.NoLimit := e0.mod.nolimit.keeps fun b o e => (e0.bs b o e).1
  have hkind : ∀ y ∈ ps.zip us, (defScope st).names.lookup y.1 = some .local ∨ ((defScope st).names.lookup y.1 = some .cell ∧ ((cellsFrom (s.heap.objs.size + 1) (defScope st).names []).lookup y.1).isSome = true) := fun y hy =>
    (S.par y.1 (List.of_mem_zip (show (y.1, y.2) ∈ ps.zip us from hy)).1).elim .inl fun q => .inr ⟨q, PySem.W.cellsFrom_some _ _ _ (.inl q)⟩
  refine codeAny_call_function hr.depth (KX _ _ lk) rfl S.co S.gen rfl (PySem.W.codeRec_of KX hcd) (hb _ _ _ _ (wpAny_newFunctionEnv_cells S.kind hkind fun env he s1 x1 => ?_))
  subst he
  refine ⟨lim.keeps x1.toInCall.keep, codeAny_func ?_⟩
  have ht := (hbody A outer s H E hg (hr.deeper _)).nox
  have I := inv_start (CX := CX0) (K := K) (mg := mg) (base := base) (E := E) S hr.hd e0 (lenV _ _ _ _ hq) r x1
  obtain ⟨ds, sd, hid, Qd, rd, Sd, hd, gd⟩ := hq
  have rdy : upS K t { nx := fun _ H' => Q .non H', rt := Q } (L2.start N vs) H := by
    refine ⟨startD N ds, sd, hid, { nx := fun _ s' => Qd (.d .none) s', rt := Qd }, re_start rd, Sd, hsp ds sd Qd hd, ?_, gd, ?_, ?_⟩
    · exact fun _ H' _ st' F' S' _ q => gd .non H' _ st' F' S' (.d .non) q
    · exact fun _ _ _ _ _ _ _ q => q.elim
    · exact fun _ _ _ _ _ _ _ q => q.elim
  refine wpAny_mono (ht.run [] s1 (L2.start N vs) H _ I rdy) (fun fl s' hs => ?_) fun e s' hs => hs
  cases fl with
  | ret u =>
    obtain ⟨v, σ', H', J, rv, q⟩ := hs
    exact ⟨v, H', J.os, J.bare, J.base, J.hok, rv, q⟩
  | next =>
    obtain ⟨σ', H', J, q⟩ := hs
    exact ⟨.non, H', J.os, J.bare, J.base, J.hok, rfl, q⟩
  | brk =>
    obtain ⟨_, _, _, q⟩ := hs
    exact False.elim q
  | cont =>
    obtain ⟨_, _, _, q⟩ := hs
    exact False.elim q
theorem can_ofT {x : Str} {st : Stmt} {N ps : List Str} {k : Nat} {sp : SpD} {t : TSd} (F : HasT K mg base x st) (S : FnScope N ps (defScope st)) (len : ∀ ds s Q, sp ds s Q → ds.length = ps.length)
    (bind : ∀ (kV doc pm : Value) (an : Option Addr) (cdv ct : Value) (us : List Value), us.length = ps.length → bindArgs (PySem.W.fnOf x x (defArgs st) (defBody st) (defScope st) .none kV doc pm an cdv ct) ⟨us, []⟩ = pure (ps.zip us))
    (hbody : ∀ (f c PT : Addr), PT ∈ (Tabs.tp : List Addr) → GxR.TabB base mg c PT → ∀ (A : Around) (outer : List Env) (s : Shared) (H : Hp) (E : XK), A.guards = some [] → Room k (A.deeper (envOfC x (defScope st) s.heap.objs.size f (.ref c))) → PDSs (cxD P w K mg base N x (defScope st) f (.ref c) A outer s H E) (defBody st) t)
    (hsp : ∀ ds s Q, sp ds s Q → t { nx := fun _ s' => Q (.d .none) s', rt := Q } (startD N ds) s) : Can P w K mg base (k + 1) x st ps sp := by
  obtain ⟨f, fd, c, PT, hm, F, hc, hP, TB⟩ := F.ex
  exact ⟨f, fd, fnD_okT F hc S len (hbody f c PT hP TB) hsp, hm, F, F.binds bind⟩
end
theorem gx_room {k : Nat} {A : Around} {e : Env} (r : Room (k + 1) A) : Room k (A.in1.in1.deeper e) :=
  ⟨r.hd, by have := r.dp; show A.depth + 1 + 3 * k + 5 < _; omega, by have := r.un; show A.units + 1 + 1 + 3 + 16 * k + 200 < _; omega⟩
def gscC (N : List Str) (sc scope : Scope) (x : Str) (fvs : List (Str × Nat)) : Bool :=
  decide (scope.kind = .function) && decide (scope.isCoroutine = false) && (scope.names.all fun y => decide (y.2 ≠ .cell)) && decide (scope.names.lookup (".0" : Str) = some NameKind.local) && decide (scope.names.lookup x = some .local) &&
    (scope.names.all fun y => decide (y.2 ≠ .free) || decide (sc.names.lookup y.1 = some .cell) || decide (sc.names.lookup y.1 = some .free)) && (fvs.all fun p => decide (scope.names.lookup p.1 = some .free) && decide (N[p.2]? = some p.1))
theorem gsc_by {X : Cx} {N : List Str} {sc scope : Scope} {x : Str} {fvs : List (Str × Nat)} (hN : X.N = N) (hs : X.env.scope = sc) (h : gscC N sc scope x fvs = true) : GSc X scope x fvs := by
  subst hs hN
  unfold gscC at h
  simp only [Bool.and_eq_true, Bool.or_eq_true, List.all_eq_true, decide_eq_true_eq] at h
  obtain ⟨⟨⟨⟨⟨⟨h1, h2⟩, h3⟩, h4⟩, h5⟩, h6⟩, h7⟩ := h
  refine ⟨h1, h2, h3, h4, h5, fun y hy e => ?_, h7⟩
  rcases h6 y hy with (q | q) | q
  · exact absurd e q
  · exact .inl q
  · exact .inr q
end DL
/-! exceptions of own classes as values: C(x), C(f = x), C() -/
namespace EXV
open PySem PySem.W PySem.Calls PyProof.Rows PySem.HandSPX
section
variable {M : Model} {A : Around} {E : Value → Shared → Prop} {hp : Heap} {gs : Array GenState} {dr : Drawn} {tk : Nat} {os : OsState}
variable {nm qn : Str} {C N : Addr} {bs bm mB : List Value} {hd : Bool} {sn : List Str} {sub : List Value} {ab : Bool} {col : Option Bool} {dd : Option Addr} {k0 k1 k2 k3 k5 : Option Value} {B nId iId : String} {us : List Value} {kw : List (Str × Value)}
theorem ck_call {Q : Unit → Shared → Prop} (hC : hp.get? C = some (excClassObj nm qn C N bs bm hd sn sub ab col dd k0 k1 k2 k3 k5 nId)) (hq : Q () ⟨hp, gs, dr, tk, os⟩) :
    wpAny M A (checkBuiltinCall "type.__call__" ⟨.ref C :: us, kw⟩) Q E ⟨hp, gs, dr, tk, os⟩ := by
  have g3 := tc_sub
  have tC : (⟨hp, gs, dr, tk, os⟩ : Shared).TypeIs (.ref C) "type" := ⟨_, hC, rfl⟩
  simp only [checkBuiltinCall, tc_kind, tc_split]
  repeat (any_goals (first | assumption | with_reducible refine wpAny_loadPart_at hC ?_ | with_reducible refine wpAny_onRaise ?_ | with_reducible refine wpAny_map ?_ | wp_step))
theorem ck_new (F : ExcBaseFacts B nId iId mB) (hT : ∀ Y : String, bm.contains (.type Y) = mB.contains (.type Y)) {Q : Unit → Shared → Prop}
    (hC : hp.get? C = some (excClassObj nm qn C N bs bm hd sn sub ab col dd k0 k1 k2 k3 k5 nId)) (hq : Q () ⟨hp, gs, dr, tk, os⟩) : wpAny M A (checkBuiltinCall nId ⟨.ref C :: us, kw⟩) Q E ⟨hp, gs, dr, tk, os⟩ := by
  have c1 : (Value.ref C :: bm).contains (.type B) = true := by
    rw [List.contains_cons, hT, F.hasB]
    exact Bool.or_true _
  have c2 := F.noStar
  simp only [checkBuiltinCall, F.newKind, F.newSplit, F.newRow]
  repeat (first | refine wpAny_loadPart_at hC ?_ | (refine wpAny_isSubtype_exc hC ?_; rw [c1]) | refine wpAny_staticBase_exc hC ?_ | refine wpAny_madeBy_exc hC ?_ | simp only [bne_self_eq_false, Bool.false_eq_true, if_false] | wp_step)
  exact hq
end
section
variable {prog : Program} {w : World} {A : Around} {E : Value → Shared → Prop} {R : Result → Shared → Prop} {hp : Heap} {gs : Array GenState} {dr : Drawn} {tk : Nat} {os : OsState}
variable {nm qn : Str} {C N : Addr} {bs bm mB : List Value} {hd : Bool} {sn : List Str} {sub : List Value} {ab : Bool} {col : Option Bool} {dd : Option Addr} {k0 k1 k2 k3 k5 : Option Value} {B nId iId : String} {us : List Value} {kw : List (Str × Value)}
theorem run_new (F : ExcBaseFacts B nId iId mB) (hT : ∀ Y : String, bm.contains (.type Y) = mB.contains (.type Y))
    (hC : hp.get? C = some (excClassObj nm qn C N bs bm hd sn sub ab col dd k0 k1 k2 k3 k5 nId)) (hl : us.length ≤ sizeLine)
    (hq : R (.ok (.ret (.ref (hp.objs.size + 1)))) ⟨(hp.push (W.kdv_tup us)).push (excO C hp.objs.size), gs, dr, tk, os⟩) :
    codeAny (model prog w) A (.builtin nId ⟨.ref C :: us, kw⟩) R ⟨hp, gs, dr, tk, os⟩ := by
  have e0 := F.ends
  have e1 : (Value.ref C :: bm).contains (.type B) = true := by
    rw [List.contains_cons, hT, F.hasB]
    exact Bool.or_true _
  have e2 : (Value.ref C :: bm).contains (.type "AttributeError") = false := by
    rw [List.contains_cons, hT, F.noAttr]
    rfl
  have e3 : (Value.ref C :: bm).contains (.type "NameError") = false := by
    rw [List.contains_cons, hT, F.noName]
    rfl
  refine codeAny_builtinAt F.entry ?_
  unfold Builtin.«BaseException.__new__»
  refine PyProof.Rows.wpAt_bind ?_
  show PyProof.Rows.wpAt _ _ _ (stack >>= _) _ _ _
  refine PyProof.Rows.wpAt_bind (PyProof.Rows.wpAt_stack fun p below => wpAt_of_wpAny ?_)
  wp_walk
  refine wpAt_of_wpAny ?_
  rw [F.owner]
  repeat (first | with_reducible refine wpAny_madeHere_exc F.canon hC ?_ | with_reducible refine wpAny_loadPart_at hC ?_ | (with_reducible refine wpAny_isSubtype_exc hC ?_; first | rw [e1] | rw [e2] | rw [e3]) | wp_step)
  show R _ _
  rw [Heap.size_push]
  exact hq
theorem run_type (F : ExcBaseFacts B nId iId mB) (hT : ∀ Y : String, bm.contains (.type Y) = mB.contains (.type Y)) {fI : Addr} {Q : Fin → Shared → Prop}
    (hC : hp.get? C = some (excClassObj nm qn C N bs bm hd sn sub ab col dd k0 k1 k2 k3 k5 nId)) (hi : W.Looks (model prog w) hp (typeLookup (.ref C) "__init__") (some (.ref fI)))
    (hb : ∀ self, W.Looks (model prog w) hp (bindSpecial (.ref fI) self) (.ref fI, [self])) (hl : us.length ≤ sizeLine)
    (hq : codeAny (model prog w) A (.call (.ref fI) ⟨.ref (hp.objs.size + 1) :: us, kw⟩)
      (fun r s' => match r with | .ok (.ret v) => v = .none ∧ Q (.done (.ret (.ref (hp.objs.size + 1)))) s' | .ok _ => False | .error e => E e s') ⟨(hp.push (W.kdv_tup us)).push (excO C hp.objs.size), gs, dr, tk, os⟩) :
    wpAny (model prog w) A (Builtin.«type.__call__» ⟨.ref C :: us, kw⟩) Q E ⟨hp, gs, dr, tk, os⟩ := by
  repeat (first | with_reducible refine wpAny_loadPart_at hC ?_ | with_reducible refine wpAny_madeBy_exc hC ?_ | wp_step)
  refine codeAny_call_builtin_code (Code.quiet_builtin _ F.quiet) (ck_new F hT hC ?_)
  refine run_new F hT hC hl ?_
  show wpAny _ _ _ _ _ _
  have kp : ∀ b o, hp.get? b = some o → ((hp.push (W.kdv_tup us)).push (excO C hp.objs.size)).get? b = some o := fun b o e => Heap.get?_push_of_some _ (Heap.get?_push_of_some _ e)
  have hx : ((hp.push (W.kdv_tup us)).push (excO C hp.objs.size)).get? (hp.objs.size + 1) = some (excO C hp.objs.size) := by heap_get
  have cC : (Value.ref C :: bm).contains (.ref C) = true := by simp
  have hC1 := kp _ _ hC
  have hi1 := hi.keeps kp
  have hb1 := (hb (.ref (hp.objs.size + 1))).keeps kp
  unfold isInstance
  repeat (first | with_reducible refine wpAny_loadPart_at hx ?_ | (with_reducible refine wpAny_isSubtype_exc hC1 ?_; rw [cC]) | wp_step)
  show wpAny _ _ (typeLookup (.ref C) _) _ _ _
  refine hi1.at ?_
  refine wpAny_holding (wpAny_bind (hb1.at ?_))
  refine wpAny_bind (wpAny_call (codeAny_mono hq fun r s' z => ?_))
  rcases r with e | (v | _ | _ | _) <;> first | exact z | exact z.elim | skip
  obtain ⟨rfl, z⟩ := z
  first
    | exact wpAny_pure (wpAny_pure z)
    | (wp_walk; exact z)
theorem run_call (F : ExcBaseFacts B nId iId mB) (hT : ∀ Y : String, bm.contains (.type Y) = mB.contains (.type Y)) {fI : Addr}
    (hC : hp.get? C = some (excClassObj nm qn C N bs bm hd sn sub ab col dd k0 k1 k2 k3 k5 nId)) (hi : W.Looks (model prog w) hp (typeLookup (.ref C) "__init__") (some (.ref fI)))
    (hb : ∀ self, W.Looks (model prog w) hp (bindSpecial (.ref fI) self) (.ref fI, [self])) (hl : us.length ≤ sizeLine)
    (hq : codeAny (model prog w) (A.under (.builtin "type.__call__" ⟨.ref C :: us, kw⟩)) (.call (.ref fI) ⟨.ref (hp.objs.size + 1) :: us, kw⟩) (W.InitBack (hp.objs.size + 1) R)
      ⟨(hp.push (W.kdv_tup us)).push (excO C hp.objs.size), gs, dr, tk, os⟩) :
    codeAny (model prog w) A (.call (.ref C) ⟨us, kw⟩) R ⟨hp, gs, dr, tk, os⟩ := by
  have f1 := tc_lookup
  have f2 := tc_bind (.ref C)
  have tC : (⟨hp, gs, dr, tk, os⟩ : Shared).TypeIs (.ref C) "type" := ⟨_, hC, rfl⟩
  refine codeAny_of_tree ?_
  show wpAny _ _ (callAny (.ref C) _) _ _ _
  repeat (any_goals (first | assumption | with_reducible refine wpAny_loadPart_at hC ?_ | wp_step))
  refine ⟨rfl, ?_⟩
  refine codeAny_call_builtin_at (Code.quiet_builtin _ (by decide +kernel)) entry_typeCall (ck_call hC (run_type F hT hC hi hb hl ?_))
  refine codeAny_mono hq fun r s' z => ?_
  rcases r with e | (v | _ | _ | _) <;> exact z
end
end EXV
/-! exceptions of own classes as values, in the data layer -/
namespace DL
open PySem PySem.Spec PyProof.Rows L2
variable [Tabs]
/-- what is asked of such a class -/
structure XC (K : PySem.W.Frag) (C : Addr) : Prop where
  o : OexC K C
  cl : (PySem.W.clsIn K C).isSome = true
  ga : PySem.W.findIn K (.ref C) "__getattribute__" = some (some (.builtin "BaseException.__getattribute__"))
  gg : PySem.W.findIn K (.ref C) "__getattr__" = some none
  hd : PySem.W.hasDictIn K C = true
  ca : PySem.W.findIn K (.ref C) "__class__" = some (some (.builtin "object.__class__"))
  cn : PySem.W.specialIn K (.builtin "object.__class__") "__get__" = some (some (.builtin "getset_descriptor.__get__"))
  ct : PySem.W.takesIn K (.builtin "object.__class__") = some true
  om : PySem.W.mroIn K C (.type "object") = some true
theorem HdO.ex0_at {K : PySem.W.Frag} {st : Sto} {H : Hp} {a C : Addr} {vs : List V} (h : HdO K st H a (.ex0 C) vs) : H a = some (exo a C none) := by
  cases h with
  | exc0 h => exact h
theorem HdO.exc_at {K : PySem.W.Frag} {st : Sto} {H : Hp} {a C : Addr} {ns : List Str} {vs : List V} (h : HdO K st H a (.exc C ns) vs) : ∃ (dd : Addr) (fs : List (Str × V)), H a = some (exo a C (some dd)) ∧ H dd = some (exd dd fs) ∧ st dd = none ∧ ns = fs.map (·.1) ∧ vs = fs.map (·.2) := by
  cases h with
  | exc h h2 f => exact ⟨_, _, h, h2, f, rfl, rfl⟩
theorem not_lst {H : Hp} {a C : Addr} {d : Option Addr} (h : H a = some (exo a C d)) : ∀ xs o, H a = some (.lst xs) → ∃ ys, o = HO.lst ys := fun xs o e => by
  rw [h] at e
  have z : HO.ext _ = HO.lst xs := Option.some.inj e
  cases z
section
variable {X : Cx} {o e a : Expr} {es : List Expr} {to te ta : TEd} {t : TAd} {f : Str} {p p' p1 p2 pos : Pos}
/-! ### self.f = e, where the exception is being made -/
def dOst (C : Addr) (f : Str) (to te : TEd) : TSd := fun E e st => te e st fun y st1 => to e st1 fun x st2 => match x with
  | .obj a => st2 a = some [.mk (.ex0 C)] ∧ E.nx e (put st2 a [.mk (.exc C [f]), y])
  | _ => False
theorem psd_ost {C : Addr} (T : OexC X.K C) (hno : PySem.W.findIn X.K (.ref C) f = some none) (ho : PD X o to) (he : PD X e te) (hs : swapsWith e (some (.Attribute o f p')) pos.line X.env = pure false := by rfl) :
    PDS X (.Assign [.Attribute o f p'] e pos) (dOst C f to te) :=
  PS.imp (ps_ost ho he hs) fun D σ H ⟨e, st, hid, E, re, S, h, k1, k2, k3, k4⟩ => ⟨e, st, hid, _, re, S, h, fun y H1 dy st1 F1 S1 ry h1 => ⟨e, st1, hid, _, re.mono F1 S.sr, S1, h1, fun x H2 dx st2 F2 S2 rx h2 => by
    cases rx with
    | d h => exact h2.elim
    | tp _ _ => exact h2.elim
    | scr h g => exact h2.elim
    | own a l => exact h2.elim
    | obj a =>
      obtain ⟨e2, q⟩ := h2
      obtain ⟨vs, hh, rv⟩ := S2.thing e2
      have key := hh.ex0_at
      refine ⟨a, C, rfl, T, hno, .inl ⟨key, fun dd hd ne => ?_⟩⟩
      have F3 : FrX st2 hid H2 st2 (upd H2 dd (exd dd [(f, y)])) := fr_new hd
      have S3 : Sx X.K st2 hid (upd H2 dd (exd dd [(f, y)])) := S2.new hd
      have key3 : upd H2 dd (exd dd [(f, y)]) a = some (exo a C none) := by rw [upd_ne ne.symm]; exact key
      have F4 : FrX st2 hid (upd H2 dd (exd dd [(f, y)])) (put st2 a [.mk (.exc C [f]), dy]) (upd (upd H2 dd (exd dd [(f, y)])) a (exo a C (some dd))) := fx_putO e2 fun xs q => not_lst key3 xs _ q
      have fd : jn st2 hid dd = none := S2.sr.free0 hd
      have F := Fr.trans F1 (Fr.trans F2 (Fr.trans F3 F4))
      have ry4 := ((ry.mono F2 S1.sr).mono F3 S2.sr).mono F4 S3.sr
      refine k1 σ _ e _ F (S3.storeO e2 (fun xs q => not_lst key3 xs _ q) ?_) (re.mono F S.sr) q
      have hdd : jn (put st2 a [.mk (.exc C [f]), dy]) hid dd = none := by
        rw [jn_put, put_ne ne]
        exact fd
      have := HdO.exc (K := X.K) (st := jn (put st2 a [.mk (.exc C [f]), dy]) hid) (fs := [(f, y)]) (upd_same (H := upd H2 dd (exd dd [(f, y)])) (a := a) (o := exo a C (some dd))) (by rw [upd_ne ne, upd_same]) hdd
      exact .obj this (.cons ry4 .nil)⟩⟩
/-! ### C(x), C(f = x) -/
/-- what such a class's __init__ keeps -/
def sp_exi (C : Addr) (f : Str) : SpD := fun ds st Q => match ds with
  | [.obj a, x] => st a = some [.mk (.ex0 C)] ∧ Q (.d .none) (put st a [.mk (.exc C [f]), x])
  | _ => False
theorem run_exv {C fI : Addr} {k : Nat} {fd : FuncData} {f : Str} {pins : List (Addr × Obj)} {σ : L2.St} {H : Hp} {s : Shared} {Q : VK} {us : List Value} {kw : List (Str × Value)} {u : Value} {v : V} {d : D} {st hid : Sto} {Qd : Kd} (T : OexC X.K C)
    (iC : PySem.W.findIn X.K (.ref C) "__init__" = some (some (.ref fI))) (tI : PySem.W.typeIn X.K (.ref fI) = some (.type "function")) (F0 : FnD X.prog X.w X.K X.mg X.base k fI fd [("self" : Str), f] (sp_exi C f)) (hG : X.A.guards = some []) (hr : Room (k + 1) X.A)
    (hb : ∀ (s : Shared) (w : Value), X.K.In s.heap → BindsTo s fd ⟨w :: us, kw⟩ ([("self" : Str), f].zip [w, u])) (hl : us.length ≤ sizeLine) (I : Inv X pins σ H s) (ru : RelV v u) (S : Sx X.K st hid H) (rv : DvD X.K (jn st hid) H v d) (g : Go X.K st hid H Qd Q)
    (q : ∀ a, st a = none → Qd (.obj a) (put st a [.mk (.exc C [f]), d])) : wpAny (model X.prog X.w) X.A (call (.ref C) us kw) (EP X pins σ Q) X.xe s := by
  obtain ⟨nm, qn, N, bs, bm, sn, sub, ab, col, dd, k0, k1, k2, k3, k5, hC, hbm⟩ := T.cls
  obtain ⟨hp, gs, dr, tk, os⟩ := s
  have hsz : hp.objs.size ≤ hp.objs.size + 1 := Nat.le_succ _
  have hn : H (hp.objs.size + 1) = none := I.hok.fresh hsz
  have kk : ∀ b o, hp.get? b = some o → ((hp.push (PySem.W.kdv_tup us)).push (PySem.HandSPX.excO C hp.objs.size)).get? b = some o := fun b o e => Heap.get?_push_of_some _ (Heap.get?_push_of_some _ e)
  have hx : ((hp.push (PySem.W.kdv_tup us)).push (PySem.HandSPX.excO C hp.objs.size)).get? (hp.objs.size + 1) = some (PySem.HandSPX.excO C hp.objs.size) := by heap_get
  have I2 := I.laid (t' := tk) (a := hp.objs.size + 1) (o := exo (hp.objs.size + 1) C none) (h' := (hp.push (PySem.W.kdv_tup us)).push (PySem.HandSPX.excO C hp.objs.size)) kk hsz (exo_ok hx)
  have fs : st (hp.objs.size + 1) = none := (jn_free (S.sr.free0 hn)).1
  have F1 : FrX st hid H (put st (hp.objs.size + 1) [.mk (.ex0 C)]) (upd H (hp.objs.size + 1) (exo (hp.objs.size + 1) C none)) := fx_own hn
  have S1 : Sx X.K (put st (hp.objs.size + 1) [.mk (.ex0 C)]) hid (upd H (hp.objs.size + 1) (exo (hp.objs.size + 1) C none)) := S.ownO hn (.obj (HdO.exc0 upd_same) .nil)
  have hq : upSp X.K (sp_exi C f) [.ref (hp.objs.size + 1), v] (upd H (hp.objs.size + 1) (exo (hp.objs.size + 1) C none)) (fun w H2 => w = .non ∧ Q (.ref (hp.objs.size + 1)) H2) E0 := by
    refine ⟨[.obj (hp.objs.size + 1), d], put st (hp.objs.size + 1) [.mk (.ex0 C)], hid, fun w s2 => w = .d .none ∧ s2 = put (put st (hp.objs.size + 1) [.mk (.ex0 C)]) (hp.objs.size + 1) [.mk (.exc C [f]), d], .cons (.obj _) (.cons (rv.mono F1 S.sr) .nil), S1, ⟨put_same, rfl, rfl⟩, ?_⟩
    intro w H2 dw s2 F2 S2 rw' ⟨e1, e2⟩
    subst e1 e2
    cases rw' with
    | d h =>
      cases h
      rw [put_put] at F2 S2
      exact ⟨rfl, g _ _ _ _ (Fr.trans F1 F2) S2 (.obj _) (q _ fs)⟩
  refine wpAny_call (EXV.run_call PySem.F.excBase_ValueError (fun Y => PySem.HandSPX.refsVE_contains Y bm hbm) (I.kIn _ _ hC) (PySem.W.looks_findIn I.kIn iC) (fun self => PySem.W.bind_fn I.kIn self tI) hl
    (codeAny_mono (F0.run _ X.stack _ _ ⟨Value.ref (hp.objs.size + 1) :: us, kw⟩ [.ref (hp.objs.size + 1), u] [.ref (hp.objs.size + 1), v] _ E0 hG (hr.make C us kw) (I2.env0.make C us kw) (hb _ _ I2.kIn) (.cons rfl (.cons ru .nil)) hq) fun r s' hq' => ?_))
  cases r with
  | error e => exact False.elim hq'
  | ok fl =>
    cases fl with
    | ret u =>
      obtain ⟨w, H', I3, rw', ev, q3⟩ := I2.after hq'
      subst ev
      exact ⟨rw', ⟨V.ref (hp.objs.size + 1), H', I3, rfl, q3⟩⟩
    | next => exact False.elim hq'
    | brk => exact False.elim hq'
    | cont => exact False.elim hq'
/-- such a class, its __init__ -/
structure CanX (P : Program) (w : World) (K : PySem.W.Frag) (mg : Str → Option Value) (base : Heap) (k : Nat) (x : Str) (C : Addr) (f : Str) : Prop where
  xc : XC K C
  hm : mg x = some (.ref C)
  kp : PySem.W.keepIn K (.ref C) = true
  ex : ∃ fI fd, PySem.W.findIn K (.ref C) "__init__" = some (some (.ref fI)) ∧ PySem.W.typeIn K (.ref fI) = some (.type "function") ∧ FnD P w K mg base k fI fd [("self" : Str), f] (sp_exi C f) ∧
    (∀ (s : Shared) (a u : Value), K.In s.heap → BindsTo s fd ⟨[a, u], []⟩ ([("self" : Str), f].zip [a, u])) ∧ (∀ (s : Shared) (a u : Value), K.In s.heap → BindsTo s fd ⟨[a], [(f, u)]⟩ ([("self" : Str), f].zip [a, u]))
def oneA (R : D → Sto → Prop) : List D → Sto → Prop := fun ds st => match ds with
  | [x] => R x st
  | _ => False
theorem oneA_at {K : PySem.W.Frag} {st : Sto} {H : Hp} {R : D → Sto → Prop} {vs : List V} {ds : List D} {s : Sto} (r : DvsD K st H vs ds) (q : oneA R ds s) : ∃ v d, vs = [v] ∧ ds = [d] ∧ DvD K st H v d ∧ R d s := by
  unfold oneA at q
  split at q
  · cases r with
    | cons r1 r2 =>
      cases r2
      exact ⟨_, _, rfl, rfl, r1, q⟩
  · exact q.elim
def dExv (C : Addr) (f : Str) (te : TEd) : TEd := fun e st Q => te e st fun x st1 => ∀ a, st1 a = none → Q (.obj a) (put st1 a [.mk (.exc C [f]), x])
theorem pd_exv {x : Str} {C : Addr} {k : Nat} (T : CanX X.prog X.w X.K X.mg X.base k x C f) (hG : X.A.guards = some []) (hr : Room (k + 1) X.A) (hg : Gl X x) (he : PD X e te) (hdb : (x == ("__debug__" : Str)) = false := by decide)
    (hs : starEach [e] X.env = (false, eval e X.env) :: starEach [] X.env := by rfl) (hpl : (backTo pos (starEach [] X.env)).any (·.1) = false := by rfl) : PD X (.Call (.Name x p) [e] [] pos) (dExv C f te) := by
  obtain ⟨fI, fd, iC, tI, F, b1, b2⟩ := T.ex
  have ha : PDA X [e] (dCons te dNil) := pda_cons he pda_nil hs
  refine ⟨fun pins s σ H Q I ⟨en, st, hid, Qd, re, S, h, g⟩ => ?_⟩
  refine wpAny_Call_Name_kw (ld_glob I hg T.hm (PySem.W.callWith_K (h₀ := X.base) I.ok.mod.kin T.kp (thn (ha.run pos pins s σ H (fun vs H1 => ∃ v d st1, vs = [v] ∧ FrX st hid H st1 H1 ∧ Sx X.K st1 hid H1 ∧ DvD X.K (jn st1 hid) H1 v d ∧ ∀ a, st1 a = none → Qd (.obj a) (put st1 a [.mk (.exc C [f]), d])) I
    ⟨en, st, hid, oneA fun x st1 => ∀ a, st1 a = none → Qd (.obj a) (put st1 a [.mk (.exc C [f]), x]), re, S, h, fun vs H1 ds st1 F1 S1 r1 q => ?_⟩) fun us s1 ⟨vs, H1, I1, r, v, d, st1, ev, F1, S1, rv, q⟩ => ⟨I1.kIn, ?_⟩) hs hpl) hdb)
  · obtain ⟨v, d, e1, e2, rv, q⟩ := oneA_at r1 q
    exact ⟨v, d, st1, e1, F1, S1, rv, q⟩
  · subst ev
    obtain ⟨u, rfl, ru⟩ := vals1 r
    exact run_exv (us := [u]) (kw := []) T.xc.o iC tI F hG hr (fun s a => b1 s a u) (by show 1 ≤ sizeLine; rw [sizeLine_eq]; omega) I1 ru S1 rv (Go.mono g F1) q
/-- C(f = x) -/
theorem pd_exvK {x : Str} {C : Addr} {k : Nat} {kpos : Pos} (T : CanX X.prog X.w X.K X.mg X.base k x C f) (hG : X.A.guards = some []) (hr : Room (k + 1) X.A) (hg : Gl X x) (he : PD X e te) (hdb : (x == ("__debug__" : Str)) = false := by decide)
    (hall : (backToKw pos (keywordEach [⟨some f, e, kpos⟩] X.env)).all (·.1.isSome) = true := by rfl) (hks : (backToKw pos (keywordEach [⟨some f, e, kpos⟩] X.env)).filterMap (·.1) = [f] := by rfl)
    (hpl : ((backTo pos (starEach [] X.env)).any (·.1) || (backToKw pos (keywordEach [⟨some f, e, kpos⟩] X.env)).any (·.1.isNone)) = false := by rfl) : PD X (.Call (.Name x p) [] [⟨some f, e, kpos⟩] pos) (dExv C f te) := by
  obtain ⟨fI, fd, iC, tI, F, b1, b2⟩ := T.ex
  have ha : PDK X [⟨some f, e, kpos⟩] (dCons te dNil) := pdk_cons he pdk_nil
  refine ⟨fun pins s σ H Q I ⟨en, st, hid, Qd, re, S, h, g⟩ => ?_⟩
  refine wpAny_Call_Name_kw (ld_glob I hg T.hm (PySem.W.callWith_KW0 (h₀ := X.base) I.ok.mod.kin T.kp hall (thn (ha.run pos pins s σ H (fun vs H1 => ∃ v d st1, vs = [v] ∧ FrX st hid H st1 H1 ∧ Sx X.K st1 hid H1 ∧ DvD X.K (jn st1 hid) H1 v d ∧ ∀ a, st1 a = none → Qd (.obj a) (put st1 a [.mk (.exc C [f]), d])) I
    ⟨en, st, hid, oneA fun x st1 => ∀ a, st1 a = none → Qd (.obj a) (put st1 a [.mk (.exc C [f]), x]), re, S, h, fun vs H1 ds st1 F1 S1 r1 q => ?_⟩) fun us s1 ⟨vs, H1, I1, r, v, d, st1, ev, F1, S1, rv, q⟩ => ⟨I1.kIn, ?_⟩) hpl) hdb)
  · obtain ⟨v, d, e1, e2, rv, q⟩ := oneA_at r1 q
    exact ⟨v, d, st1, e1, F1, S1, rv, q⟩
  · subst ev
    obtain ⟨u, rfl, ru⟩ := vals1 r
    rw [hks]
    exact run_exv (us := []) (kw := [(f, u)]) T.xc.o iC tI F hG hr (fun s a => b2 s a u) (Nat.zero_le _) I1 ru S1 rv (Go.mono g F1) q
/-- C(), a class without __init__ -/
def dExv0 (C : Addr) : TEd := fun _ st Q => ∀ a, st a = none → Q (.obj a) (put st a [.mk (.ex0 C)])
theorem pd_exv0 {x : Str} {C : Addr} {bmB : List Value} {B nId iId : String} (F0 : ExcBaseFacts B nId iId bmB) (hx : PySem.W.excIn X.K C bmB nId = true) (kp : PySem.W.keepIn X.K (.ref C) = true) (hm : X.mg x = some (.ref C)) (hg : Gl X x) (hdb : (x == ("__debug__" : Str)) = false := by decide) :
    PD X (.Call (.Name x p) [] [] pos) (dExv0 C) := by
  refine ⟨fun pins s σ H Q I ⟨en, st, hid, Qd, re, S, h, g⟩ => ?_⟩
  refine wpAny_Call_Name_kw (ld_glob I hg hm (PySem.W.callWith_K0 I.kIn kp ?_) hdb)
  show wpAny _ _ (call (.ref C) []) _ _ _
  obtain ⟨bm, N, nm, qn, bs, hdct, sn, sub, ab, col, dd, k0, k1, k2, k3, k5, mN, hC, hN, hni, OT⟩ := exc_obj I.kIn hx
  refine wpAny_call_exc_subT F0 OT hC hN hni (fun h' a hm => ?_) (Nat.zero_le _)
  have hn : H a = none := I.hok.gone hm.new
  obtain ⟨t, ht, _, _⟩ := hm.there
  have fs : st a = none := (jn_free (S.sr.free0 hn)).1
  exact ⟨.ref a, upd H a (exo a C none), I.laidN hm.keeps hm.new hn (exo_ok ht), rfl, g _ _ _ _ (fx_own hn) (S.ownO hn (.obj (HdO.exc0 upd_same) .nil)) (.obj a) (h a fs)⟩
/-! ### isinstance -/
/-- an exception of the class C, whatever it holds -/
def IsX (C : Addr) (ds : List D) : Prop := ds = [.mk (.ex0 C)] ∨ ∃ f y, ds = [.mk (.exc C [f]), y]
def rIsx (K : PySem.W.Frag) : List V → Hp → VK → Prop := fun xs H Q => ∃ (a C : Addr) (d : Option Addr) (c : V) (u : Value) (b : Bool), xs = [.ref a, c] ∧ H a = some (exo a C d) ∧ (∀ dd, d = some dd → ∃ fs, H dd = some (exd dd fs)) ∧ XC K C ∧ ClsV c u ∧ PySem.W.kitOne K (.ref C) u = some b ∧ Q (.bl b) H
theorem call_isx : CallR X (.builtin "isinstance") (rIsx X.K) := by
  intro pins s σ H xs us Q I r h
  obtain ⟨a, C, d, c, u, b, rfl, ha, hd, T, k, e, q⟩ := h
  obtain ⟨u1, u2, rfl, r1, r2⟩ := vals2 r
  have e2 := k.eq r2
  subst e2
  cases (show u1 = Value.ref a from r1)
  obtain ⟨t1, ho⟩ := exo_at I.hok ha
  have J : ∃ od, PySem.W.InstAt s.heap a ({ cls := .ref C, dict := d, data := .fields #[.ref t1, .none, .none, .none, .bool false, .none] } : Obj) C od := by
    cases d with
    | none => exact ⟨none, ho, rfl, rfl, trivial⟩
    | some dd =>
      obtain ⟨fs, hdd⟩ := hd dd rfl
      obtain ⟨mA, hns, _⟩ := exd_at I.hok hdd
      obtain ⟨od, h1, _⟩ := lookIn_ns hns
      exact ⟨some od, ho, rfl, rfl, h1⟩
  obtain ⟨od, J⟩ := J
  exact PySem.W.kia_one (PySem.W.kitx_exc T.cl T.ga T.gg T.o.exC T.ca T.cn T.ct T.om) I.kIn J e (fun z => nomatch z) fun tk => ⟨.bl b, H, I.tok tk, rfl, q⟩
/-- tab: of which classes it is known, and what -/
def dIsx (tab : Addr → Option Bool) (te : TEd) : TEd := fun e st Q => te e st fun d st1 => match d with
  | .obj a => ∃ C ds b, st1 a = some ds ∧ IsX C ds ∧ tab C = some b ∧ Q (.d (.bool b)) st1
  | _ => False
theorem pd_isx {y : Str} {c : V} {u : Value} {tab : Addr → Option Bool} (hg : Gl X "isinstance") (hm : X.mg "isinstance" = none) (hy : PE X (.Name y p2) (fun _ H Q => Q c H)) (hc : ClsV c u) (hT : ∀ C b, tab C = some b → XC X.K C ∧ PySem.W.kitOne X.K (.ref C) u = some b) (he : PD X e te)
    (hv : bootBuiltins "isinstance" = some (.builtin "isinstance") := by rfl)
    (h1 : starEach [.Name y p2] X.env = [(false, eval (.Name y p2) X.env)] := by rfl) (hs : starEach [e, .Name y p2] X.env = (false, eval e X.env) :: starEach [.Name y p2] X.env := by rfl) (hpl : (backTo pos (starEach [.Name y p2] X.env)).any (·.1) = false := by rfl) :
    PD X (.Call (.Name "isinstance" p) [e, .Name y p2] [] pos) (dIsx tab te) :=
  PE.imp (pe_callB call_isx hg hm hv (pa_cons he (pa_cons hy pa_nil h1) hs) (by decide) (by decide) hs hpl) fun σ H Q ⟨e, st, hid, Qd, re, S, h, k⟩ => ⟨e, st, hid, _, re, S, h, fun v H1 d st1 F1 S1 r q => by
    cases r with
    | d _ => exact q.elim
    | tp _ _ => exact q.elim
    | scr _ _ => exact q.elim
    | own _ _ => exact q.elim
    | obj a =>
      obtain ⟨C, ds, b, e1, hx, ht, q⟩ := q
      obtain ⟨T, hk⟩ := hT C b ht
      rcases hx with rfl | ⟨f, y, rfl⟩
      · obtain ⟨vs, hh, _⟩ := S1.thing e1
        exact ⟨a, C, none, c, u, b, rfl, hh.ex0_at, fun _ z => (nomatch z), T, hc, hk, (Go.mono k F1).now S1 (.d (.bl b)) q⟩
      · obtain ⟨vs, hh, _⟩ := S1.thing e1
        obtain ⟨dd, fs, h1, h2, _⟩ := hh.exc_at
        exact ⟨a, C, some dd, c, u, b, rfl, h1, fun _ z => ⟨fs, by cases z; exact h2⟩, T, hc, hk, (Go.mono k F1).now S1 (.d (.bl b)) q⟩⟩
/-! ### e.f -/
def dXf (ok : Addr → Bool) (n : Str) (te : TEd) : TEd := fun e st Q => te e st fun d st1 => match d with
  | .obj a => ∃ C y, st1 a = some [.mk (.exc C [n]), y] ∧ ok C = true ∧ Q y st1
  | _ => False
theorem pd_xf {n : Str} {ok : Addr → Bool} (hT : ∀ C, ok C = true → XC X.K C ∧ PySem.W.findIn X.K (.ref C) n = some none) (he : PD X e te) (hb : attributeBase e n X.env (eval e X.env) = eval e X.env := by rfl) : PD X (.Attribute e n pos) (dXf ok n te) := by
  refine ⟨fun pins s σ H Q I ⟨en, st, hid, Qd, re, S, h, g⟩ => ?_⟩
  refine attr_of hb (thn (he.run pins s σ H (fun v H1 => ∃ a C y st1, v = .ref a ∧ FrX st hid H st1 H1 ∧ Sx X.K st1 hid H1 ∧ st1 a = some [.mk (.exc C [n]), y] ∧ ok C = true ∧ Qd y st1) I ⟨en, st, hid, _, re, S, h, fun v H1 d st1 F1 S1 r q => ?_⟩) fun u s1 ⟨v, H1, I1, r, a, C, y, st1, ev, F1, S1, e1, hok, q⟩ => ?_)
  · cases r with
    | d _ => exact q.elim
    | tp _ _ => exact q.elim
    | scr _ _ => exact q.elim
    | own _ _ => exact q.elim
    | obj a =>
      obtain ⟨C, y, e1, hok, q⟩ := q
      exact ⟨a, C, y, st1, rfl, F1, S1, e1, hok, q⟩
  · subst ev
    cases (show u = Value.ref a from r)
    obtain ⟨T, hno⟩ := hT C hok
    obtain ⟨vs, hh, rv⟩ := S1.thing e1
    obtain ⟨dd, fs, h1, h2, _, hn, hv⟩ := hh.exc_at
    cases fs with
    | nil => cases hn
    | cons p fs =>
      cases fs with
      | cons _ _ => cases hn
      | nil =>
        obtain ⟨m, x⟩ := p
        cases hn
        subst hv
        cases rv with
        | cons rx _ =>
          obtain ⟨t1, ho⟩ := exo_at I1.hok h1
          obtain ⟨mA, hns, hr⟩ := exd_at I1.hok h2
          obtain ⟨od, ho2, hl⟩ := lookIn_ns hns
          obtain ⟨u, hu, ru⟩ := RelO.some_of (v := x) (o := mA m) (by
            have := hr m
            simpa [List.lookup] using this)
          have J : PySem.W.InstAt s1.heap a _ C (some od) := ⟨ho, rfl, rfl, ho2⟩
          exact HandSPX.exc_get I1.kIn J T.ga T.gg T.o.exC (PySem.W.findObj_own T.hd hno rfl (by rw [hl, hu])) (handed_of ru) ⟨x, H1, I1.tok _, ru, g _ _ _ _ F1 S1 rx q⟩
end
end DL
namespace DL
open PySem PySem.Spec PyProof.Rows L2
variable [Tabs]
/-! ### enumerate of a list of one's own that holds things of one's own -/
def enumT (xs : List D) : List D := (List.range xs.length).zipWith (fun (i : Nat) x => D.tp [.d (.int i), x]) xs
def dEnumO (t : TAd) : TId := fun e st R => t e st fun ds st1 => match ds with
  | [.own a] => ∃ xs : List D, st1 a = some xs ∧ xs.all noTp = true ∧ R ⟨enumT xs, some (a, xs)⟩ st1
  | _ => False
theorem enumT_get {xs : List D} {i : Nat} {d : D} (h : (enumT xs)[i]? = some d) : ∃ x, xs[i]? = some x ∧ d = .tp [.d (.int i), x] := by
  unfold enumT at h
  rw [List.getElem?_zipWith] at h
  cases e : xs[i]? with
  | none =>
    rw [e] at h
    cases q : (List.range xs.length)[i]? <;> (rw [q] at h; cases h)
  | some x =>
    have hi : i < xs.length := (List.getElem?_eq_some_iff.mp e).1
    rw [e, List.getElem?_range hi] at h
    exact ⟨x, rfl, (Option.some.inj h).symm⟩
theorem enumT_len {xs : List D} : (enumT xs).length = xs.length := by
  unfold enumT
  rw [List.length_zipWith, List.length_range, Nat.min_self]
theorem all_at {xs : List D} {i : Nat} {x : D} (n : xs.all noTp = true) (h : xs[i]? = some x) : noTp x = true := List.all_eq_true.mp n x (List.mem_of_getElem? h)
theorem itok_enX {K : PySem.W.Frag} {F0 : Sto} {H0 : Hp} {a : Addr} {xs : List D} (l : ∃ xs, H0 a = some (.lst xs)) (n : xs.all noTp = true) : ItOk K F0 H0 (Ite K a) ⟨enumT xs, some (a, xs)⟩ := fun i F H fr S at_ => by
  obtain ⟨vs, h, r⟩ := S.list (at_ a _ rfl) (let ⟨_, e⟩ := l; fr.ls a _ e)
  have h' : SqL K H a vs := .inl (.inl h)
  refine ⟨fun d e => ?_, fun z => ⟨vs, h', by
    have z' : _ ≤ i := z
    rw [enumT_len] at z'
    rw [Paired.length r]
    exact z'⟩⟩
  obtain ⟨x, ex, rfl⟩ := enumT_get e
  obtain ⟨v, e1, r1⟩ := r.get ex
  refine ⟨⟨vs, v, h', e1⟩, fun y H' ⟨T, w, ey, hT, eh, hy⟩ => ?_⟩
  subst ey eh
  have e2 := hy vs h'
  rw [e1] at e2
  cases e2
  have F1 : Fr F H F (upd H T (.tup [.int (i : Nat), v])) := fr_new hT
  exact ⟨F1, sr_new S hT, .tp (.inl (.inl upd_same)) (.cons (.d (.int _)) (.cons ((r1.mono F1 S).dn (all_at n ex)) .nil))⟩
theorem pdi_enumO {X : Cx} {e : Expr} {ta : TAd} {p pos tpos : Pos} {elts : List Expr} {kk : Nat} (hg : Gl X "enumerate") (hm : X.mg "enumerate" = none) (ha : PDA X [e] ta) (hs : starEach [e] X.env = [(false, eval e X.env)] := by rfl) :
    PDI X (.Tuple elts kk tpos) (.Call (.Name "enumerate" p) [e] [] pos) (dEnumO ta) := by
  refine ⟨fun pins s σ H R I ⟨en, st, hid, Rd, re, S, h, k⟩ => ?_⟩
  refine Call_ (ld_blt I hg hm boot_enumerate (PyProof.Rows.callWith_type1 (thn (ha.run pos pins s σ H (fun vs H1 => ∃ a, vs = [.ref a] ∧ (∃ xs, SqL X.K H1 a xs) ∧ R (Ite X.K a) H1) I ⟨en, st, hid, _, re, S, h, fun vs H1 ds st1 F1 S1 r q => ?_⟩) fun us s1 ⟨vs, H1, I1, r1, a, ex, ⟨xs, hq⟩, q⟩ => ?_) hs))
  · split at q
    · obtain ⟨v, rfl, r1⟩ := DvsD.one r
      cases r1 with
      | own _ l =>
        obtain ⟨xs, e1, n, q⟩ := q
        obtain ⟨vs, h1, r2⟩ := S1.at_ e1 l
        exact ⟨_, rfl, ⟨_, .inl (.inl h1)⟩, k _ H1 _ st1 F1 S1 (itok_enX l n) (fun b es z => by
          cases z
          exact e1) q⟩
    · exact q.elim
  · subst ex
    cases r1 with
    | cons r rr =>
      cases rr
      cases r
      have fpo : ∀ b ∈ [s1.heap.objs.size + 1, s1.heap.objs.size], FpOk X pins H1 b := fun b hb => by
        have hle : s1.heap.objs.size ≤ b := by
          rcases (by simpa using hb : b = s1.heap.objs.size + 1 ∨ b = s1.heap.objs.size) with z | z <;> rw [z] <;> omega
        exact I1.fpOk hle (I1.hok.fresh hle)
      obtain ⟨its, rv, p', hz⟩ := I1.list hq
      refine call_enumerate_list p'.isList fun h' he hit hsz hk => wpAny_pyIter_enum he ?_
      exact ⟨s1.heap.objs.size + 1, [s1.heap.objs.size + 1, s1.heap.objs.size], _, _, H1, rfl, I1.kept (t' := s1.toks) hk, turn_enum a (s1.heap.objs.size + 1) s1.heap.objs.size, ⟨⟨.none, he⟩, hit, Nat.succ_ne_self _⟩, fpo, q⟩
end DL
/-! repr of data that may hold dicts -/
namespace DL
open PySem PySem.Spec PyProof.Rows L2
variable [Tabs]
/-- sys.modules is a dict, and stands where it stood -/
def SmB (h : Heap) : Prop := ∃ o es ep, h.get? sysModules = some o ∧ o.data = .dict es ep
theorem keys_rel {P : Program} {w : World} : ∀ {es : List DictEntry} {vs : List (Key × Value)}, PySem.Pairs (mixKind P w) es vs → ∀ {kvs : List (Key × V)}, KV kvs vs → Vals (kvs.map fun p => kV p.1) (es.map (·.key)) ∧ Vals (kvs.map (·.2)) (es.map (·.val))
  | _, _, .nil, _, r => by
    cases r
    exact ⟨.nil, .nil⟩
  | _, _, .cons h e t, _, r => by
    cases r with
    | cons r1 r2 =>
      obtain ⟨i1, i2⟩ := keys_rel t r2
      refine ⟨.cons ?_ i1, .cons ?_ i2⟩
      · show RelV (kV _) _
        rw [r1.1]
        exact keyIs_rel h
      · have z := r1.2
        rw [← e] at z
        exact z
section
variable {X : Cx} {pins : List (Addr × Obj)} {σ : L2.St} {st : Sto} {H : Hp} {s : Shared}
mutual
theorem Dv.rd (I : Inv X pins σ H s) (sm : SmB s.heap) : ∀ {v : V} {x : PyData} {u : Value}, Dv X.K st H v x → RelV v u → ∃ as, Reads s.heap u x as ∧ sysModules ∉ as
  | _, _, _, .non, r => by
    cases (show _ = Value.none from r)
    exact ⟨[], .none, by simp⟩
  | _, _, _, .bl b, r => by
    cases (show _ = Value.bool b from r)
    exact ⟨[], .bool b, by simp⟩
  | _, _, _, .int i, r => by
    obtain ⟨t, rfl⟩ := r
    exact ⟨[], .int i t, by simp⟩
  | _, _, _, .str x, r => by
    obtain ⟨t, rfl⟩ := r
    exact ⟨[], .str x t, by simp⟩
  | _, _, _, .lst (a := a) h f q, r => by
    cases (show _ = Value.ref a from r)
    obtain ⟨_, its, n, rv, e⟩ := (I.hok a _ h : ObjOk _ _ _ _ _ _)
    obtain ⟨as, ra, na⟩ := Dvs.rd I sm q rv
    refine ⟨_, .list e rfl rfl (by simpa using ra), fun z => ?_⟩
    rcases List.mem_cons.mp z with z | z
    · obtain ⟨o, es, ep, e2, c⟩ := sm
      rw [z, e] at e2
      cases e2
      cases c
    · exact na z
  | _, _, _, .tup (a := a) h q, r => by
    cases (show _ = Value.ref a from r)
    obtain ⟨its, rv, p, hz⟩ := I.tuple h
    obtain ⟨o, e, c, n, d⟩ := p
    obtain ⟨as, ra, na⟩ := Dvs.rd I sm q rv
    exact ⟨_, .tuple e c d (by simpa using ra), na⟩
  | _, _, _, .dic (a := a) h f q1 q2, r => by
    cases (show _ = Value.ref a from r)
    obtain ⟨_, ne, vs, kv, o, es, ep, e, ex, d, _, ps, _⟩ := dk_of I.hok h
    obtain ⟨r1, r2⟩ := keys_rel ps kv
    obtain ⟨as, ra, na⟩ := Dvs.rd I sm q1 r1
    obtain ⟨bs, rb, nb⟩ := Dvs.rd I sm q2 r2
    refine ⟨_, .dict e ex.1 d ra rb, fun z => ?_⟩
    rcases List.mem_append.mp z with z | z
    · rcases List.mem_cons.mp z with z | z
      · rw [z] at ne
        simp at ne
      · exact na z
    · exact nb z
theorem Dvs.rd (I : Inv X pins σ H s) (sm : SmB s.heap) : ∀ {vs : List V} {xs : List PyData} {us : List Value}, Dvs X.K st H vs xs → Vals vs us → ∃ as, ReadsAll s.heap us xs as ∧ sysModules ∉ as
  | _, _, _, .nil, .nil => ⟨[], .nil, by simp⟩
  | _, _, _, .cons h t, .cons r rr => by
    obtain ⟨as, ra, na⟩ := Dv.rd I sm h r
    obtain ⟨bs, rb, nb⟩ := Dvs.rd I sm t rr
    exact ⟨_, .cons ra rb, fun z => (List.mem_append.mp z).elim na nb⟩
end
def cReprD : RCd := fun ds st Q => match ds with
  | [.d x] => x.showable = true ∧ x.shown.length ≤ sizeLine ∧ x.depth ≤ 64 ∧ Q (.d (.str x.shown)) st
  | _ => False
theorem c_reprD (hG : X.A.guards = some []) (hu : X.A.units + 65 < cLine) (sb : SmB X.base) : CallR X (.builtin "repr") (upC X.K cReprD) := fun pins s σ H vs us Q I rx ⟨ds, st, hid, Qd, r, S, w, k⟩ => by
  unfold cReprD at w
  split at w
  · rename_i x
    obtain ⟨v, rfl, r1⟩ := r.one
    obtain ⟨h2, h3, h4, q⟩ := w
    have sm : SmB s.heap := by
      obtain ⟨o, es, ep, e, c⟩ := sb
      exact ⟨o, es, ep, I.bk _ _ e, c⟩
    cases r1 with
    | d r1 =>
      obtain ⟨u, rfl, ru⟩ := vals1 rx
      have fin : ∀ {h' : Heap} {uu : Tok} {tk : Nat}, (∀ b o, s.heap.get? b = some o → h'.get? b = some o) → EP X pins σ Q (.str x.shown uu) { s with heap := h', toks := tk } := fun {h' uu tk} kp => ⟨.str _, H, I.kept kp, ⟨_, rfl⟩, k.now S (.d (.str _)) q⟩
      obtain ⟨as, rd, na⟩ := Dv.rd I sm r1 ru
      cases r1 with
      | non =>
        cases ru
        exact PySem.P.repr_of_none (fin fun _ _ e => e)
      | bl b =>
        cases ru
        have := fin (h' := s.heap) (uu := s.toks) (tk := s.toks + 1) fun _ _ e => e
        rw [PyData.shown_bool] at this
        exact PySem.P.repr_of_bool this
      | int i =>
        obtain ⟨t, rfl⟩ := ru
        have := fin (h' := s.heap) (uu := s.toks) (tk := s.toks + 1) fun _ _ e => e
        rw [PyData.shown_int] at this
        exact PySem.P.repr_of_int (by simpa [PyData.showable] using h2) this
      | str i =>
        obtain ⟨t, rfl⟩ := ru
        have := fin (h' := s.heap) (uu := s.toks) (tk := s.toks + 1) fun _ _ e => e
        rw [PyData.shown_str] at this h3
        exact PySem.P.repr_of_str this h3
      | lst h f rr =>
        cases ru
        exact repr_of_reads' rd h2 (fun _ => na) hG (by omega) (fun _ _ e => e) (fun h' u tk kp => fin kp) h3
      | tup h rr =>
        cases ru
        exact repr_of_reads' rd h2 (fun _ => na) hG (by omega) (fun _ _ e => e) (fun h' u tk kp => fin kp) h3
      | dic h f rr qq =>
        cases ru
        exact repr_of_reads' rd h2 (fun _ => na) hG (by omega) (fun _ _ e => e) (fun h' u tk kp => fin kp) h3
  · exact w.elim
end
end DL
/-! +, -, * where one of both is a bool -/
namespace DL
open PySem PySem.Spec PyProof.Rows L2
variable [Tabs]
def b2 (b : Bool) : Int := if b = true then 1 else 0
def rAddX : R2d := fun x y st Q => match x, y with
  | .d (.bool b), .d (.int j) => Q (.d (.int (b2 b + j))) st
  | x, y => rAddD x y st Q
def rSubX : R2d := fun x y st Q => match x, y with
  | .d (.bool b), .d (.int j) => Q (.d (.int (b2 b - j))) st
  | .d (.int i), .d (.bool b) => Q (.d (.int (i - b2 b))) st
  | x, y => rSubD x y st Q
def rMulB : R2d := fun x y st Q => match x, y with
  | .d (.int i), .d (.bool b) => Q (.d (.int (i * b2 b))) st
  | x, y => rMulD x y st Q
section
variable {X : Cx}
theorem o_addX : OpR X (binaryOp .Add) (upR X.K rAddX) := fun pins s σ H x y v u Q I rx ry ⟨dx, dy, st, hid, Qd, hx, hy, S, w, k⟩ => by
  unfold rAddX at w
  split at w
  · cases bl_at hx
    cases int_at hy
    cases (show v = Value.bool _ from rx)
    obtain ⟨t, rfl⟩ := ry
    exact IntBool.add_bool_int ⟨.int _, H, I.tok _, ⟨_, rfl⟩, k.now S (.d (.int _)) w⟩
  · exact o_add pins s σ H x y v u Q I rx ry ⟨_, _, st, hid, Qd, hx, hy, S, w, k⟩
theorem o_subX : OpR X (binaryOp .Sub) (upR X.K rSubX) := fun pins s σ H x y v u Q I rx ry ⟨dx, dy, st, hid, Qd, hx, hy, S, w, k⟩ => by
  unfold rSubX at w
  split at w
  · cases bl_at hx
    cases int_at hy
    cases (show v = Value.bool _ from rx)
    obtain ⟨t, rfl⟩ := ry
    exact IntBool.sub_bool_int ⟨.int _, H, I.tok _, ⟨_, rfl⟩, k.now S (.d (.int _)) w⟩
  · cases int_at hx
    cases bl_at hy
    cases (show u = Value.bool _ from ry)
    obtain ⟨t, rfl⟩ := rx
    exact IntBool.sub_int_bool ⟨.int _, H, I.tok _, ⟨_, rfl⟩, k.now S (.d (.int _)) w⟩
  · exact o_sub pins s σ H x y v u Q I rx ry ⟨_, _, st, hid, Qd, hx, hy, S, w, k⟩
theorem o_mulB : OpR X (binaryOp .Mult) (upR X.K rMulB) := fun pins s σ H x y v u Q I rx ry ⟨dx, dy, st, hid, Qd, hx, hy, S, w, k⟩ => by
  unfold rMulB at w
  split at w
  · cases int_at hx
    cases bl_at hy
    cases (show u = Value.bool _ from ry)
    obtain ⟨t, rfl⟩ := rx
    exact IntBool.mul_int_bool ⟨.int _, H, I.tok _, ⟨_, rfl⟩, k.now S (.d (.int _)) w⟩
  · exact o_mul pins s σ H x y v u Q I rx ry ⟨_, _, st, hid, Qd, hx, hy, S, w, k⟩
def cStrX : RCd := fun ds st Q => match ds with
  | [.d (.bool b)] => Q (.d (.str (if b = true then "True" else "False" : String))) st
  | ds => cStrI ds st Q
theorem c_strX : CallR X (.type "str") (upC X.K cStrX) := fun pins s σ H vs us Q I rx ⟨ds, st, hid, Qd, r, S, w, k⟩ => by
  unfold cStrX at w
  split at w
  · rename_i b
    obtain ⟨v, rfl, r1⟩ := r.one
    cases bl_at r1
    obtain ⟨u, rfl, ru⟩ := vals1 rx
    cases (show u = Value.bool b from ru)
    refine PySem.P.str_of_bool ⟨.str _, H, I.tok _, ⟨_, rfl⟩, k.now S (.d (.str _)) ?_⟩
    cases b <;> exact w
  · exact c_str pins s σ H vs us Q I rx ⟨_, st, hid, Qd, r, S, w, k⟩
/-- x != (), x any tuple -/
def rNeX : R2d := fun x y st Q => match x, y with
  | .d (.tuple xs), .d (.tuple []) => Q (.d (.bool (!xs.isEmpty))) st
  | x, y => rNeV x y st Q
theorem o_neX (hu : X.A.units + 64 < cLine) : OpR X (compareOp .NotEq) (upR X.K rNeX) := fun pins s σ H x y v u Q I rx ry ⟨dx, dy, st, hid, Qd, hx, hy, S, w, k⟩ => by
  unfold rNeX at w
  split at w
  · rename_i xs
    obtain ⟨a, vs, rfl, h1, r1⟩ := tup_at hx
    obtain ⟨b, ws, rfl, h2, r2⟩ := tup_at hy
    cases r2
    cases (show v = Value.ref a from rx)
    cases (show u = Value.ref b from ry)
    obtain ⟨its, rv, p, hz⟩ := I.tuple h1
    obtain ⟨jts, rw', p', hz'⟩ := I.tuple h2
    cases rw'
    have p : s.heap.IsTuple a its.toArray := p
    have p' : s.heap.IsTuple b ([] : List Value).toArray := p'
    have key := PySem.SeqAt.RcNeAt.tuples (A := X.A) (s := s) p p' (by omega) (e := fun _ => true) (fun j j1 j2 => absurd j2 (by simp))
    refine PySem.W.cmp_ofNotEq (key _ _ _ _ ?_)
    have e : (!((List.range (min its.toArray.size ([] : List Value).toArray.size)).all (fun _ => true) && its.toArray.size == ([] : List Value).toArray.size)) = !xs.isEmpty := by
      have l1 := rv.length
      have l2 := r1.length
      cases xs <;> cases its <;> simp_all
    rw [e]
    exact ⟨.bl _, H, I, rfl, k.now S (.d (.bl _)) w⟩
  · exact o_ne hu pins s σ H x y v u Q I rx ry ⟨_, _, st, hid, Qd, hx, hy, S, w, k⟩
end
end DL
namespace LB
open PySem PySem.Spec PyProof.Rows L2 DL
abbrev N_is_whole : List Str := ["value"]
abbrev N_is_row : List Str := ["value", "low", "high"]
abbrev N_is_fraction : List Str := ["value"]
abbrev N_is_place : List Str := ["value"]
abbrev N_is_stretch : List Str := ["value"]
abbrev N_check_point : List Str := ["value"]
abbrev N_check_segment : List Str := ["value"]
abbrev N_sign : List Str := ["number"]
abbrev N_is_less : List Str := ["first", "second"]
abbrev N_is_ahead : List Str := ["first", "second"]
abbrev N_scaled : List Str := ["point", "x", "x_lower", "y", "y_lower", "w"]
abbrev N_crossed : List Str := ["first", "second"]
abbrev N_along : List Str := ["line", "triple"]
abbrev N_side_of : List Str := ["first", "second", "third"]
abbrev N_in_order : List Str := ["segment", "first", "second"]
abbrev N_lies_on : List Str := ["segment", "point", "low", "high"]
abbrev N_is_point : List Str := ["value"]
abbrev N_turn_of : List Str := ["point", "other", "third"]
abbrev N_is_on : List Str := ["segment", "point"]
abbrev N_spring : List Str := ["_law_script", "_law_turn", "_law_mixed", "_law_cell", "_law_own_here"]
abbrev N_draw : List Str := ["_law_spring_here", "_law_many", "_law_digit", "_law_seed"]
abbrev N_one_of : List Str := ["_law_spring_here", "_law_some"]
abbrev N_divisor : List Str := ["_law_one", "_law_two", "_law_far", "_law_rest"]
abbrev N_part : List Str := ["_law_top", "_law_base", "_law_far"]
abbrev N_place : List Str := ["_law_x", "_law_y", "_law_w", "_law_far"]
abbrev N_told : List Str := ["_law_place_here"]
abbrev N_own : List Str := ["_law_told_here", "_law_a", "_law_b", "_law_c", "_law_d"]
abbrev N_side : List Str := ["_law_p", "_law_q", "_law_r", "_law_high"]
abbrev N_l_is_less : List Str := ["_law_p", "_law_q"]
abbrev N_l_lies_on : List Str := ["_law_p", "_law_q", "_law_r", "_law_low", "_law_high"]
abbrev N_odd : List Str := ["_law_spring_here", "_law_nil", "_law_one", "_law_two", "_law_some"]
abbrev N_bent : List Str := ["_law_spring_here", "_law_thing", "_law_at", "_law_branch"]
abbrev N_l_is_whole : List Str := ["_law_thing"]
abbrev N_is_lot : List Str := ["_law_thing", "_law_low", "_law_high"]
abbrev N_l_is_fraction : List Str := ["_law_thing", "_law_each"]
abbrev N_is_told : List Str := ["_law_thing", "_law_each"]
abbrev N_l_sign : List Str := ["_law_whole"]
end LB
namespace LB
open PySem PySem.Spec PyProof.Rows L2 DL
abbrev I (i : Int) : D := .d (.int i)
abbrev Bo (b : Bool) : D := .d (.bool b)
def fr (a b : Int) : PyData := .tuple [.int a, .int b]
def tri (x y w : Int) : PyData := .tuple [.int x, .int y, .int w]
structure Pt where
  (a b c d : Int)
  deriving DecidableEq
def Pt.py (p : Pt) : PyData := .tuple [fr p.a p.b, fr p.c p.d]
def B (n : Nat) (i : Int) : Prop := i.natAbs < 2 ^ n
def gc (a b : Int) : Int := ((Nat.gcd a.natAbs b.natAbs : Nat) : Int)
structure Pt.Ok (p : Pt) : Prop where
  hb : 0 < p.b
  hd : 0 < p.d
  g1 : gc p.a p.b = 1
  g2 : gc p.c p.d = 1
  ba : B 1600 p.a
  bb : B 1600 p.b
  bc : B 1600 p.c
  bd : B 1600 p.d
structure Tr where
  (x y w : Int)
  deriving DecidableEq
def Tr.py (t : Tr) : PyData := tri t.x t.y t.w
structure Tr.Ok (n : Nat) (t : Tr) : Prop where
  hw : 0 < t.w
  bx : B n t.x
  by_ : B n t.y
  bw : B n t.w
def det (p q r : Tr) : Int := p.x * (q.y * r.w - r.y * q.w) - p.y * (q.x * r.w - r.x * q.w) + p.w * (q.x * r.y - r.x * q.y)
def sgn (n : Int) : Int := if n = 0 then 0 else if 0 < n then 1 else -1
/-- the spring: what is left of a great number, the mixed one, how often it was asked -/
def SprL (xs : List D) (n : Nat) : Prop := ∃ x y z : Int, xs = [I x, I y, I z] ∧ 0 ≤ y ∧ y < 2147483629 ∧ 0 ≤ z ∧ z ≤ n
theorem SprL.mono {xs : List D} {n m : Nat} (h : SprL xs n) (hm : n ≤ m) : SprL xs m := by
  obtain ⟨x, y, z, e, h1, h2, h3, h4⟩ := h
  exact ⟨x, y, z, e, h1, h2, h3, by omega⟩
/-- what asks the spring at most c times -/
def spS (c : Nat) (post : D → Prop) (p : Addr) (st : Sto) (Q : Kd) : Prop := ∃ n xs, st p = some xs ∧ SprL xs n ∧ n + c < 2 ^ 40 ∧ ∀ d xs', post d → SprL xs' (n + c) → Q d (put st p xs')
def sp_spring : SpD := fun ds st Q => match ds with
  | [.scr ns, .d (.int t)] => ns.length ≤ 63 ∧ 0 ≤ t ∧ t < 100 ∧ ∀ p xs, st p = none → SprL xs 0 → Q (.own p) (put st p xs)
  | _ => False
def sp_draw : SpD := fun ds st Q => match ds with
  | [.own p, .d (.int m)] => 0 < m ∧ m < 2 ^ 40 ∧ spS 1 (fun d => ∃ i, d = I i ∧ 0 ≤ i ∧ i < m) p st Q
  | _ => False
def sp_one_of : SpD := fun ds st Q => match ds with
  | [.own p, .d (.list xs)] => 0 < xs.length ∧ xs.length < 1000 ∧ spS 1 (fun d => ∃ x, d = .d x ∧ x ∈ xs) p st Q
  | [.own p, .d (.tuple xs)] => 0 < xs.length ∧ xs.length < 1000 ∧ spS 1 (fun d => ∃ x, d = .d x ∧ x ∈ xs) p st Q
  | _ => False
def sp_odd : SpD := fun ds st Q => match ds with
  | [.own p] => spS 1 (fun d => ∃ x, d = .d x) p st Q
  | _ => False
/-- data that may be bent: no dicts, no great numbers, k deep -/
def Plain : Nat → PyData → Prop
  | _, .int i => B 1000 i
  | _, .str _ => True
  | k + 1, .tuple xs => xs.length ≤ 1000 ∧ SeqAt.shaped (.tuple xs) = true ∧ ∀ x ∈ xs, Plain k x
  | _, _ => False
def sp_bentK (k : Nat) : SpD := fun ds st Q => match ds with
  | [.own p, .d x] => Plain k x ∧ spS (2 * k + 2) (fun d => ∃ x, d = .d x) p st Q
  | _ => False
def sp_bent : SpD := sp_bentK 2
def sp_divisor : SpD := fun ds st Q => match ds with
  | [.d (.int a), .d (.int b)] => Q (I (gc a b)) st
  | _ => False
def partD (t b : Int) : PyData := fr (t / gc t b) (b / gc t b)
def sp_part : SpD := fun ds st Q => match ds with
  | [.d (.int t), .d (.int b)] => 0 < b ∧ B 8000 t ∧ B 8000 b ∧ Q (.d (partD t b)) st
  | _ => False
def placeT (x y w : Int) : Tr := ⟨x / gc (gc x y) w, y / gc (gc x y) w, w / gc (gc x y) w⟩
def placeS (x y w : Int) : Tr := if 0 < w then placeT x y w else placeT (-x) (-y) (-w)
def sp_place : SpD := fun ds st Q => match ds with
  | [.d (.int x), .d (.int y), .d (.int w)] => w ≠ 0 ∧ B 8000 x ∧ B 8000 y ∧ B 8000 w ∧ Q (.d (placeS x y w).py) st
  | _ => False
def toldP (t : Tr) : Pt := ⟨t.x / gc t.x t.w, t.w / gc t.x t.w, t.y / gc t.y t.w, t.w / gc t.y t.w⟩
def ownT (p : Pt) : Tr := placeT (p.a * p.d) (p.c * p.b) (p.b * p.d)
/-! the program's own looks -/
def isW : PyData → Bool
  | .int _ => true
  | _ => false
def isRow (lo hi : Int) : PyData → Bool
  | .tuple xs => decide (lo ≤ xs.length) && decide ((xs.length : Int) ≤ hi)
  | _ => false
def isFr : PyData → Bool
  | .tuple [.int a, .int b] => decide (0 < b) && decide (gc a b = 1)
  | _ => false
def isPl : PyData → Bool
  | .tuple [p, q] => isFr p && isFr q
  | _ => false
def sp_is_whole : SpD := fun ds st Q => match ds with
  | [.d x] => Q (Bo (isW x)) st
  | _ => False
def sp_l_is_whole : SpD := sp_is_whole
def sp_is_row : SpD := fun ds st Q => match ds with
  | [.d x, .d (.int lo), .d (.int hi)] => Q (Bo (isRow lo hi x)) st
  | _ => False
def sp_is_lot : SpD := sp_is_row
def sp_is_fraction : SpD := fun ds st Q => match ds with
  | [.d x] => Q (Bo (isFr x)) st
  | _ => False
def sp_l_is_fraction : SpD := sp_is_fraction
def sp_is_place : SpD := fun ds st Q => match ds with
  | [.d x] => Q (Bo (isPl x)) st
  | _ => False
def sp_is_point : SpD := sp_is_place
def sp_is_told : SpD := sp_is_place
end LB
namespace LB
open PySem PySem.Spec PyProof.Rows L2 DL
def sp_told : SpD := fun ds st Q => match ds with
  | [.d (.tuple [.int x, .int y, .int w])] => Tr.Ok 1600 ⟨x, y, w⟩ ∧ Q (.d (toldP ⟨x, y, w⟩).py) st
  | _ => False
def sp_own : SpD := fun ds st Q => match ds with
  | [.d (.tuple [.tuple [.int a, .int b], .tuple [.int c, .int d]])] => 0 < b ∧ 0 < d ∧ B 1600 a ∧ B 1600 b ∧ B 1600 c ∧ B 1600 d ∧ Q (.d (ownT ⟨a, b, c, d⟩).py) st
  | _ => False
def sp_side : SpD := fun ds st Q => match ds with
  | [.d (.tuple [.int x, .int y, .int w]), .d (.tuple [.int x', .int y', .int w']), .d (.tuple [.int x'', .int y'', .int w''])] => (B 4000 x ∧ B 4000 y ∧ B 4000 w) ∧ (B 4000 x' ∧ B 4000 y' ∧ B 4000 w') ∧ (B 4000 x'' ∧ B 4000 y'' ∧ B 4000 w'') ∧ Q (I (det ⟨x, y, w⟩ ⟨x', y', w'⟩ ⟨x'', y'', w''⟩)) st
  | _ => False
def lessT (p q : Tr) : Bool := if p.x * q.w ≠ q.x * p.w then decide (p.x * q.w < q.x * p.w) else decide (p.y * q.w < q.y * p.w)
def sp_l_is_less : SpD := fun ds st Q => match ds with
  | [.d (.tuple [.int x, .int y, .int w]), .d (.tuple [.int x', .int y', .int w'])] => (B 4000 x ∧ B 4000 y ∧ B 4000 w) ∧ (B 4000 x' ∧ B 4000 y' ∧ B 4000 w') ∧ Q (Bo (lessT ⟨x, y, w⟩ ⟨x', y', w'⟩)) st
  | _ => False
def onT (p q r : Tr) : Bool := if det p q r ≠ 0 then false else if lessT p q then !lessT r p && !lessT q r else !lessT r q && !lessT p r
def sp_l_lies_on : SpD := fun ds st Q => match ds with
  | [.d (.tuple [.int x, .int y, .int w]), .d (.tuple [.int x', .int y', .int w']), .d (.tuple [.int x'', .int y'', .int w''])] => (B 4000 x ∧ B 4000 y ∧ B 4000 w) ∧ (B 4000 x' ∧ B 4000 y' ∧ B 4000 w') ∧ (B 4000 x'' ∧ B 4000 y'' ∧ B 4000 w'') ∧ Q (Bo (onT ⟨x, y, w⟩ ⟨x', y', w'⟩ ⟨x'', y'', w''⟩)) st
  | _ => False
def sp_l_sign : SpD := fun ds st Q => match ds with
  | [.d (.int n)] => Q (I (sgn n)) st
  | _ => False
def sp_sign : SpD := sp_l_sign
/-! the program's geometry -/
def scT (p : Pt) : Tr := ⟨p.a * (((Nat.lcm p.b.natAbs p.d.natAbs : Nat) : Int) / p.b), p.c * (((Nat.lcm p.b.natAbs p.d.natAbs : Nat) : Int) / p.d), ((Nat.lcm p.b.natAbs p.d.natAbs : Nat) : Int)⟩
def sp_scaled : SpD := fun ds st Q => match ds with
  | [.d (.tuple [.tuple [.int a, .int b], .tuple [.int c, .int d]])] => 0 < b ∧ 0 < d ∧ B 1600 a ∧ B 1600 b ∧ B 1600 c ∧ B 1600 d ∧ Q (.d (scT ⟨a, b, c, d⟩).py) st
  | _ => False
def crT (p q : Tr) : Tr := ⟨p.y * q.w - p.w * q.y, p.w * q.x - p.x * q.w, p.x * q.y - p.y * q.x⟩
def sp_crossed : SpD := fun ds st Q => match ds with
  | [.d (.tuple [.int x, .int y, .int w]), .d (.tuple [.int x', .int y', .int w'])] => (B 8000 x ∧ B 8000 y ∧ B 8000 w) ∧ (B 8000 x' ∧ B 8000 y' ∧ B 8000 w') ∧ Q (.d (crT ⟨x, y, w⟩ ⟨x', y', w'⟩).py) st
  | _ => False
def alT (l t : Tr) : Int := l.x * t.x + l.y * t.y + l.w * t.w
def sp_along : SpD := fun ds st Q => match ds with
  | [.d (.tuple [.int x, .int y, .int w]), .d (.tuple [.int x', .int y', .int w'])] => (B 20000 x ∧ B 20000 y ∧ B 20000 w) ∧ (B 20000 x' ∧ B 20000 y' ∧ B 20000 w') ∧ Q (I (alT ⟨x, y, w⟩ ⟨x', y', w'⟩)) st
  | _ => False
def sideP (p q r : Pt) : Int := sgn (alT (crT (scT p) (scT q)) (scT r))
/-- three points as arguments -/
def sp_side_of : SpD := fun ds st Q => ∃ p q r : Pt, ds = [.d p.py, .d q.py, .d r.py] ∧ p.Ok ∧ q.Ok ∧ r.Ok ∧ Q (I (sideP p q r)) st
def sp_turn_of : SpD := sp_side_of
def sp_is_less : SpD := fun ds st Q => match ds with
  | [.d (.tuple [.int a, .int b]), .d (.tuple [.int c, .int d])] => (B 1600 a ∧ B 1600 b ∧ B 1600 c ∧ B 1600 d) ∧ Q (Bo (decide (a * d < c * b))) st
  | _ => False
def ahead (p q : Pt) : Bool := if p.a = q.a ∧ p.b = q.b then decide (p.c * q.d < q.c * p.d) else decide (p.a * q.b < q.a * p.b)
def sp_is_ahead : SpD := fun ds st Q => ∃ p q : Pt, ds = [.d p.py, .d q.py] ∧ p.Ok ∧ q.Ok ∧ Q (Bo (ahead p q)) st
def sp_in_order : SpD := fun ds st Q => ∃ p q : Pt, ds = [.d (.tuple [p.py, q.py])] ∧ p.Ok ∧ q.Ok ∧ Q (.d (if ahead q p then .tuple [q.py, p.py] else .tuple [p.py, q.py])) st
def onP (p q r : Pt) : Bool := if sideP p q r ≠ 0 then false else if ahead q p then !ahead r q && !ahead p r else !ahead r p && !ahead q r
def sp_lies_on : SpD := fun ds st Q => ∃ p q r : Pt, ds = [.d (.tuple [p.py, q.py]), .d r.py] ∧ p.Ok ∧ q.Ok ∧ r.Ok ∧ Q (Bo (onP p q r)) st
def sp_is_on : SpD := fun ds st Q => ∃ p q r : Pt, ds = [.d (.tuple [p.py, q.py]), .d r.py] ∧ p.Ok ∧ q.Ok ∧ r.Ok ∧ p ≠ q ∧ Q (Bo (onP p q r)) st
def sp_is_stretch : SpD := fun ds st Q => ∃ p q : Pt, ds = [.d (.tuple [p.py, q.py])] ∧ p.Ok ∧ q.Ok ∧ p ≠ q ∧ Q (Bo true) st
def sp_check_point : SpD := fun ds st Q => ∃ p : Pt, ds = [.d p.py] ∧ p.Ok ∧ Q (.d .none) st
def sp_check_segment : SpD := fun ds st Q => ∃ p q : Pt, ds = [.d (.tuple [p.py, q.py])] ∧ p.Ok ∧ q.Ok ∧ p ≠ q ∧ Q (.d .none) st
end LB
namespace LB
open PySem PySem.Spec PyProof.Rows L2 DL
def b_is_whole : TSd := (dRet (dAnd (dIs "int" (dVar 0)) (dNot (dIs "bool" (dVar 0)))))
def b_is_row : TSd := (dRet (dAnd (dIs "tuple" (dVar 0)) (dChain rLeD rLeD (dVar 1) (dCall cLen (dCons (dVar 0) dNil)) (dVar 2))))
def b_is_fraction_1 : TSd := (dIfS (dOrT (dNotT (dTst (dFn0 sp_is_row (dCons (dVar 0) (dCons (dC (.int 2)) (dCons (dC (.int 2)) dNil)))))) (dOrT (dNotT (dTst (dFn0 sp_is_whole (dCons (dBin rIxD (dVar 0) (dC (.int 0))) dNil)))) (dNotT (dTst (dFn0 sp_is_whole (dCons (dBin rIxD (dVar 0) (dC (.int 1))) dNil)))))) (dRet (dC (.bool false))) dNext)
def b_is_fraction_2 : TSd := (dRet (dAnd (dBin rGtD (dBin rIxD (dVar 0) (dC (.int 1))) (dC (.int 0))) (dBin rEqV (dCall cGcd (dCons (dBin rIxD (dVar 0) (dC (.int 0))) (dCons (dBin rIxD (dVar 0) (dC (.int 1))) dNil))) (dC (.int 1)))))
def b_is_fraction : TSd := (dSeq b_is_fraction_1 b_is_fraction_2)
def b_is_place : TSd := (dRet (dAnd (dFn0 sp_is_row (dCons (dVar 0) (dCons (dC (.int 2)) (dCons (dC (.int 2)) dNil)))) (dAnd (dFn0 sp_is_fraction (dCons (dBin rIxD (dVar 0) (dC (.int 0))) dNil)) (dFn0 sp_is_fraction (dCons (dBin rIxD (dVar 0) (dC (.int 1))) dNil)))))
def b_is_stretch : TSd := (dRet (dAnd (dFn0 sp_is_row (dCons (dVar 0) (dCons (dC (.int 2)) (dCons (dC (.int 2)) dNil)))) (dAnd (dFn0 sp_is_place (dCons (dBin rIxD (dVar 0) (dC (.int 0))) dNil)) (dAnd (dFn0 sp_is_place (dCons (dBin rIxD (dVar 0) (dC (.int 1))) dNil)) (dBin rNeV (dBin rIxD (dVar 0) (dC (.int 0))) (dBin rIxD (dVar 0) (dC (.int 1))))))))
def b_check_point : TSd := (dIfS (dNotT (dTst (dFn0 sp_is_place (dCons (dVar 0) dNil)))) dNever dNext)
def b_check_segment : TSd := (dIfS (dNotT (dTst (dFn0 sp_is_stretch (dCons (dVar 0) dNil)))) dNever dNext)
def b_sign_1 : TSd := (dIfS (dTst (dBin rEqV (dVar 0) (dC (.int 0)))) (dRet (dC (.int 0))) dNext)
def b_sign_2 : TSd := (dRet (dIf (dTst (dBin rGtD (dVar 0) (dC (.int 0)))) (dC (.int 1)) (dNeg (dC (.int 1)))))
def b_sign : TSd := (dSeq b_sign_1 b_sign_2)
def b_is_less : TSd := (dRet (dBin rLtD (dBin rMulD (dBin rIxD (dVar 0) (dC (.int 0))) (dBin rIxD (dVar 1) (dC (.int 1)))) (dBin rMulD (dBin rIxD (dVar 1) (dC (.int 0))) (dBin rIxD (dVar 0) (dC (.int 1))))))
def b_is_ahead_1 : TSd := (dIfS (dTst (dBin rNeV (dBin rIxD (dVar 0) (dC (.int 0))) (dBin rIxD (dVar 1) (dC (.int 0))))) (dRet (dFn0 sp_is_less (dCons (dBin rIxD (dVar 0) (dC (.int 0))) (dCons (dBin rIxD (dVar 1) (dC (.int 0))) dNil)))) dNext)
def b_is_ahead_2 : TSd := (dRet (dFn0 sp_is_less (dCons (dBin rIxD (dVar 0) (dC (.int 1))) (dCons (dBin rIxD (dVar 1) (dC (.int 1))) dNil))))
def b_is_ahead : TSd := (dSeq b_is_ahead_1 b_is_ahead_2)
def b_scaled_1 : TSd := (dAsg (dVar 0) (hTup 2 (hCons (hTup 2 (hCons (hName 1) (hCons (hName 2) hNil))) (hCons (hTup 2 (hCons (hName 3) (hCons (hName 4) hNil))) hNil))))
def b_scaled_2 : TSd := (dAsg (dCall cLcm (dCons (dVar 2) (dCons (dVar 4) dNil))) (hName 5))
def b_scaled_3 : TSd := (dRet (dTup (dCons (dBin rMulD (dVar 1) (dBin rDivD (dVar 5) (dVar 2))) (dCons (dBin rMulD (dVar 3) (dBin rDivD (dVar 5) (dVar 4))) (dCons (dVar 5) dNil)))))
def b_scaled : TSd := (dSeq b_scaled_1 (dSeq b_scaled_2 b_scaled_3))
def b_crossed : TSd := (dRet (dTup (dCons (dBin rSubD (dBin rMulD (dBin rIxD (dVar 0) (dC (.int 1))) (dBin rIxD (dVar 1) (dC (.int 2)))) (dBin rMulD (dBin rIxD (dVar 0) (dC (.int 2))) (dBin rIxD (dVar 1) (dC (.int 1))))) (dCons (dBin rSubD (dBin rMulD (dBin rIxD (dVar 0) (dC (.int 2))) (dBin rIxD (dVar 1) (dC (.int 0)))) (dBin rMulD (dBin rIxD (dVar 0) (dC (.int 0))) (dBin rIxD (dVar 1) (dC (.int 2))))) (dCons (dBin rSubD (dBin rMulD (dBin rIxD (dVar 0) (dC (.int 0))) (dBin rIxD (dVar 1) (dC (.int 1)))) (dBin rMulD (dBin rIxD (dVar 0) (dC (.int 1))) (dBin rIxD (dVar 1) (dC (.int 0))))) dNil)))))
def b_along : TSd := (dRet (dBin rAddD (dBin rAddD (dBin rMulD (dBin rIxD (dVar 0) (dC (.int 0))) (dBin rIxD (dVar 1) (dC (.int 0)))) (dBin rMulD (dBin rIxD (dVar 0) (dC (.int 1))) (dBin rIxD (dVar 1) (dC (.int 1))))) (dBin rMulD (dBin rIxD (dVar 0) (dC (.int 2))) (dBin rIxD (dVar 1) (dC (.int 2))))))
def b_side_of : TSd := (dRet (dFn0 sp_sign (dCons (dFn0 sp_along (dCons (dFn0 sp_crossed (dCons (dFn0 sp_scaled (dCons (dVar 0) dNil)) (dCons (dFn0 sp_scaled (dCons (dVar 1) dNil)) dNil))) (dCons (dFn0 sp_scaled (dCons (dVar 2) dNil)) dNil))) dNil)))
def b_in_order_1 : TSd := (dAsg (dVar 0) (hTup 2 (hCons (hName 1) (hCons (hName 2) hNil))))
def b_in_order_2 : TSd := (dRet (dIf (dTst (dFn0 sp_is_ahead (dCons (dVar 2) (dCons (dVar 1) dNil)))) (dTup (dCons (dVar 2) (dCons (dVar 1) dNil))) (dTup (dCons (dVar 1) (dCons (dVar 2) dNil)))))
def b_in_order : TSd := (dSeq b_in_order_1 b_in_order_2)
def b_lies_on_1 : TSd := (dIfS (dTst (dBin rNeV (dFn0 sp_side_of (dCons (dBin rIxD (dVar 0) (dC (.int 0))) (dCons (dBin rIxD (dVar 0) (dC (.int 1))) (dCons (dVar 1) dNil)))) (dC (.int 0)))) (dRet (dC (.bool false))) dNext)
def b_lies_on_2 : TSd := (dAsg (dFn0 sp_in_order (dCons (dVar 0) dNil)) (hTup 2 (hCons (hName 2) (hCons (hName 3) hNil))))
def b_lies_on_3 : TSd := (dRet (dAnd (dNot (dFn0 sp_is_ahead (dCons (dVar 1) (dCons (dVar 2) dNil)))) (dNot (dFn0 sp_is_ahead (dCons (dVar 3) (dCons (dVar 1) dNil))))))
def b_lies_on : TSd := (dSeq b_lies_on_1 (dSeq b_lies_on_2 b_lies_on_3))
def b_is_point : TSd := (dRet (dFn0 sp_is_place (dCons (dVar 0) dNil)))
def b_turn_of_1 : TSd := (dDrop (dFn0 sp_check_point (dCons (dVar 0) dNil)))
def b_turn_of_2 : TSd := (dDrop (dFn0 sp_check_point (dCons (dVar 1) dNil)))
def b_turn_of_3 : TSd := (dDrop (dFn0 sp_check_point (dCons (dVar 2) dNil)))
def b_turn_of_4 : TSd := (dRet (dFn0 sp_side_of (dCons (dVar 0) (dCons (dVar 1) (dCons (dVar 2) dNil)))))
def b_turn_of : TSd := (dSeq b_turn_of_1 (dSeq b_turn_of_2 (dSeq b_turn_of_3 b_turn_of_4)))
def b_is_on_1 : TSd := (dDrop (dFn0 sp_check_segment (dCons (dVar 0) dNil)))
def b_is_on_2 : TSd := (dDrop (dFn0 sp_check_point (dCons (dVar 1) dNil)))
def b_is_on_3 : TSd := (dRet (dFn0 sp_lies_on (dCons (dVar 0) (dCons (dVar 1) dNil))))
def b_is_on : TSd := (dSeq b_is_on_1 (dSeq b_is_on_2 b_is_on_3))
def b_spring_1 (c : Int) : TSd := (dAsg (dBin rAddD (dC (.int c)) (dBin rMulD (dC (.int 9241)) (dVar 1))) (hName 2))
def b_spring_2 : TSd := (dFor (dIter (dSl (dVar 0) dNoP (dPart (dC (.int 9))))) (hName 3) (dAsg (dBin rModD (dCall cInt (dCons (dBin rAddD (dBin rAddD (dBin rMulD (dVar 2) (dC (.int 58027))) (dBin rModD (dCall cInt (dCons (dVar 3) dNil)) (dC (.int 2147483587)))) (dC (.int 19))) dNil)) (dC (.int 2147483629))) (hName 2)))
def b_spring_3 : TSd := (dAsg (dIf (dTst (dBin rLtD (dVar 1) (dCall cLen (dCons (dVar 0) dNil)))) (dCall cInt (dCons (dBin rIxD (dVar 0) (dVar 1)) dNil)) (dC (.int 0))) (hName 4))
def b_spring_4 : TSd := (dAsg (dBin rModD (dCall cInt (dCons (dBin rAddD (dBin rAddD (dBin rMulD (dVar 2) (dC (.int 61))) (dBin rMulD (dBin rModD (dCall cInt (dCons (dVar 4) dNil)) (dC (.int 2147483587))) (dC (.int 30011)))) (dC (.int 7))) dNil)) (dC (.int 2147483629))) (hName 2))
def b_spring_5 : TSd := (dRet (dLst (dCons (dIf (dOrT (dTst (dBin rLtD (dVar 4) (dC (.int 0)))) (dTst (dBin rGeD (dVar 4) (dBin rPowD (dC (.int 10)) (dC (.int 15)))))) (dCall cAbs (dCons (dVar 4) dNil)) (dC (.int 0))) (dCons (dVar 2) (dCons (dC (.int 0)) dNil)))))
def b_spring (c : Int) : TSd := (dSeq (b_spring_1 c) (dSeq b_spring_2 (dSeq b_spring_3 (dSeq b_spring_4 b_spring_5))))
def b_draw_1 : TSd := (dIfS (dTst (dBin rGtD (dBin rIxD (dVar 0) (dC (.int 0))) (dC (.int 0)))) (dSeq (dAsg (dCall cDivmod (dCons (dBin rIxD (dVar 0) (dC (.int 0))) (dCons (dVar 1) dNil))) (hTup 2 (hCons (hSub (dVar 0) (dC (.int 0))) (hCons (hName 2) hNil)))) (dRet (dVar 2))) dNext)
def b_draw_2 : TSd := (dAsg (dBin rAddD (dBin rIxD (dVar 0) (dC (.int 2))) (dC (.int 1))) (hSub (dVar 0) (dC (.int 2))))
def b_draw_3 : TSd := (dAsg (dBin rModD (dCall cInt (dCons (dBin rAddD (dBin rIxD (dVar 0) (dC (.int 1))) (dBin rMulD (dC (.int 70003)) (dBin rIxD (dVar 0) (dC (.int 2))))) dNil)) (dC (.int 2147483629))) (hName 3))
def b_draw_4 : TSd := (dAsg (dBin rModD (dCall cInt (dCons (dBin rAddD (dBin rMulD (dVar 3) (dBin rAddD (dBin rModD (dCall cInt (dCons (dVar 3) dNil)) (dC (.int 6007))) (dC (.int 50021)))) (dBin rMulD (dC (.int 29)) (dBin rIxD (dVar 0) (dC (.int 2))))) dNil)) (dC (.int 2147483629))) (hSub (dVar 0) (dC (.int 1))))
def b_draw_5 : TSd := (dRet (dBin rModD (dCall cInt (dCons (dBin rDivD (dBin rIxD (dVar 0) (dC (.int 1))) (dC (.int 769))) dNil)) (dVar 1)))
def b_draw : TSd := (dSeq b_draw_1 (dSeq b_draw_2 (dSeq b_draw_3 (dSeq b_draw_4 b_draw_5))))
def b_one_of : TSd := (dRet (dBin rIxD (dVar 1) (dFn0 sp_draw (dCons (dVar 0) (dCons (dCall cLen (dCons (dVar 1) dNil)) dNil)))))
def b_divisor_1 : TSd := (dPar 2 3 (dCons (dCall cAbs (dCons (dVar 0) dNil)) (dCons (dCall cAbs (dCons (dVar 1) dNil)) dNil)))
def b_divisor_2 : TSd := (dWhile (dTst (dBin rNeV (dVar 3) (dC (.int 0)))) (dPar 2 3 (dCons (dVar 3) (dCons (dBin rModD (dCall cInt (dCons (dVar 2) dNil)) (dVar 3)) dNil))))
def b_divisor_3 : TSd := (dRet (dVar 2))
def b_divisor : TSd := (dSeq b_divisor_1 (dSeq b_divisor_2 b_divisor_3))
def b_part_1 : TSd := (dAsg (dIf (dTst (dBin rGtD (dVar 1) (dC (.int 0)))) (dFn0 sp_divisor (dCons (dVar 0) (dCons (dVar 1) dNil))) (dBin rSubD (dC (.int 0)) (dFn0 sp_divisor (dCons (dVar 0) (dCons (dVar 1) dNil))))) (hName 2))
def b_part_2 : TSd := (dRet (dTup (dCons (dBin rDivD (dVar 0) (dVar 2)) (dCons (dBin rDivD (dVar 1) (dVar 2)) dNil))))
def b_part : TSd := (dSeq b_part_1 b_part_2)
def b_place_1 : TSd := (dAsg (dIf (dTst (dBin rGtD (dVar 2) (dC (.int 0)))) (dFn0 sp_divisor (dCons (dFn0 sp_divisor (dCons (dVar 0) (dCons (dVar 1) dNil))) (dCons (dVar 2) dNil))) (dBin rSubD (dC (.int 0)) (dFn0 sp_divisor (dCons (dFn0 sp_divisor (dCons (dVar 0) (dCons (dVar 1) dNil))) (dCons (dVar 2) dNil))))) (hName 3))
def b_place_2 : TSd := (dRet (dTup (dCons (dBin rDivF (dVar 0) (dVar 3)) (dCons (dBin rDivF (dVar 1) (dVar 3)) (dCons (dBin rDivF (dVar 2) (dVar 3)) dNil)))))
def b_place : TSd := (dSeq b_place_1 b_place_2)
def b_told : TSd := (dRet (dTup (dCons (dFn0 sp_part (dCons (dBin rIxD (dVar 0) (dC (.int 0))) (dCons (dBin rIxD (dVar 0) (dC (.int 2))) dNil))) (dCons (dFn0 sp_part (dCons (dBin rIxD (dVar 0) (dC (.int 1))) (dCons (dBin rIxD (dVar 0) (dC (.int 2))) dNil))) dNil))))
def b_own_1 : TSd := (dAsg (dVar 0) (hTup 2 (hCons (hTup 2 (hCons (hName 1) (hCons (hName 2) hNil))) (hCons (hTup 2 (hCons (hName 3) (hCons (hName 4) hNil))) hNil))))
def b_own_2 : TSd := (dRet (dFn0 sp_place (dCons (dBin rMulD (dVar 1) (dVar 4)) (dCons (dBin rMulD (dVar 3) (dVar 2)) (dCons (dBin rMulD (dVar 2) (dVar 4)) dNil)))))
def b_own : TSd := (dSeq b_own_1 b_own_2)
def b_side_1 : TSd := (dAsg (dBin rSubD (dBin rMulD (dBin rIxD (dVar 0) (dC (.int 0))) (dBin rSubD (dBin rMulD (dBin rIxD (dVar 1) (dC (.int 1))) (dBin rIxD (dVar 2) (dC (.int 2)))) (dBin rMulD (dBin rIxD (dVar 2) (dC (.int 1))) (dBin rIxD (dVar 1) (dC (.int 2)))))) (dBin rMulD (dBin rIxD (dVar 0) (dC (.int 1))) (dBin rSubD (dBin rMulD (dBin rIxD (dVar 1) (dC (.int 0))) (dBin rIxD (dVar 2) (dC (.int 2)))) (dBin rMulD (dBin rIxD (dVar 2) (dC (.int 0))) (dBin rIxD (dVar 1) (dC (.int 2))))))) (hName 3))
def b_side_2 : TSd := (dRet (dBin rAddD (dVar 3) (dBin rMulD (dBin rIxD (dVar 0) (dC (.int 2))) (dBin rSubD (dBin rMulD (dBin rIxD (dVar 1) (dC (.int 0))) (dBin rIxD (dVar 2) (dC (.int 1)))) (dBin rMulD (dBin rIxD (dVar 2) (dC (.int 0))) (dBin rIxD (dVar 1) (dC (.int 1))))))))
def b_side : TSd := (dSeq b_side_1 b_side_2)
def b_l_is_less_1 : TSd := (dIfS (dTst (dBin rNeV (dBin rMulD (dBin rIxD (dVar 0) (dC (.int 0))) (dBin rIxD (dVar 1) (dC (.int 2)))) (dBin rMulD (dBin rIxD (dVar 1) (dC (.int 0))) (dBin rIxD (dVar 0) (dC (.int 2)))))) (dRet (dBin rLtD (dBin rMulD (dBin rIxD (dVar 0) (dC (.int 0))) (dBin rIxD (dVar 1) (dC (.int 2)))) (dBin rMulD (dBin rIxD (dVar 1) (dC (.int 0))) (dBin rIxD (dVar 0) (dC (.int 2)))))) dNext)
def b_l_is_less_2 : TSd := (dRet (dBin rLtD (dBin rMulD (dBin rIxD (dVar 0) (dC (.int 1))) (dBin rIxD (dVar 1) (dC (.int 2)))) (dBin rMulD (dBin rIxD (dVar 1) (dC (.int 1))) (dBin rIxD (dVar 0) (dC (.int 2))))))
def b_l_is_less : TSd := (dSeq b_l_is_less_1 b_l_is_less_2)
def b_l_lies_on_1 : TSd := (dIfS (dTst (dBin rNeV (dFn0 sp_side (dCons (dVar 0) (dCons (dVar 1) (dCons (dVar 2) dNil)))) (dC (.int 0)))) (dRet (dC (.bool false))) dNext)
def b_l_lies_on_2 : TSd := (dAsg (dIf (dTst (dFn0 sp_l_is_less (dCons (dVar 0) (dCons (dVar 1) dNil)))) (dTup (dCons (dVar 0) (dCons (dVar 1) dNil))) (dTup (dCons (dVar 1) (dCons (dVar 0) dNil)))) (hTup 2 (hCons (hName 3) (hCons (hName 4) hNil))))
def b_l_lies_on_3 : TSd := (dRet (dAnd (dNot (dFn0 sp_l_is_less (dCons (dVar 2) (dCons (dVar 3) dNil)))) (dNot (dFn0 sp_l_is_less (dCons (dVar 4) (dCons (dVar 2) dNil))))))
def b_l_lies_on : TSd := (dSeq b_l_lies_on_1 (dSeq b_l_lies_on_2 b_l_lies_on_3))
def b_odd_1 : TSd := (dAsg (dTup (dCons (dTup (dCons (dTup (dCons (dC (.int 0)) (dCons (dC (.int 1)) dNil))) (dCons (dTup (dCons (dC (.int 0)) (dCons (dC (.int 1)) dNil))) dNil))) (dCons (dTup (dCons (dTup (dCons (dC (.int 1)) (dCons (dC (.int 1)) dNil))) (dCons (dTup (dCons (dC (.int 0)) (dCons (dC (.int 1)) dNil))) dNil))) (dCons (dTup (dCons (dTup (dCons (dNeg (dC (.int 3))) (dCons (dC (.int 2)) dNil))) (dCons (dTup (dCons (dC (.int 5)) (dCons (dC (.int 7)) dNil))) dNil))) dNil)))) (hTup 3 (hCons (hName 1) (hCons (hName 2) (hCons (hName 3) hNil)))))
def b_odd_2 : TSd := (dAsg (dLstV (dCons (dC .none) (dCons (dC (.bool true)) (dCons (dC (.bool false)) (dCons (dC (.int 0)) (dCons (dC (.int 1)) (dCons (dNeg (dC (.int 1))) (dCons (dBin rPowD (dC (.int 10)) (dC (.int 25))) (dCons (dC (.str "")) (dCons (dC (.str "A")) (dCons (dC (.str "E")) (dCons (dC (.str "a")) (dCons (dC (.str "spot")) (dCons (dC (.str "vertex")) (dCons (dC (.str "face")) (dCons (dTup dNil) (dCons (dTup (dCons (dC (.int 0)) dNil)) (dCons (dTup (dCons (dC (.int 0)) (dCons (dC (.int 1)) dNil))) (dCons (dTup (dCons (dC (.int 1)) (dCons (dC (.int 1)) dNil))) (dCons (dTup (dCons (dC (.int 2)) (dCons (dC (.int 2)) dNil))) (dCons (dTup (dCons (dC (.int 0)) (dCons (dC (.int 3)) dNil))) (dCons (dTup (dCons (dC (.int 0)) (dCons (dC (.int 0)) dNil))) (dCons (dTup (dCons (dC (.int 1)) (dCons (dC (.int 0)) dNil))) (dCons (dTup (dCons (dC (.int 3)) (dCons (dNeg (dC (.int 2))) dNil))) (dCons (dTup (dCons (dC (.bool true)) (dCons (dC (.int 1)) dNil))) (dCons (dTup (dCons (dC (.int 0)) (dCons (dC (.bool true)) dNil))) (dCons (dTup (dCons (dC (.str "0")) (dCons (dC (.int 1)) dNil))) (dCons (dTup (dCons (dC .none) (dCons (dC (.int 1)) dNil))) (dCons (dVar 1) (dCons (dVar 2) (dCons (dVar 3) (dCons (dTup (dCons (dVar 1) (dCons (dVar 2) dNil))) (dCons (dTup (dCons (dVar 3) (dCons (dVar 1) dNil))) (dCons (dTup (dCons (dVar 1) (dCons (dVar 1) dNil))) (dCons (dTup (dCons (dVar 1) (dCons (dVar 2) (dCons (dVar 3) dNil)))) (dCons (dTup (dCons (dVar 2) (dCons (dVar 3) (dCons (dVar 2) dNil)))) (dCons (dTup (dCons (dTup (dCons (dC (.int 0)) (dCons (dC (.int 1)) dNil))) dNil)) (dCons (dTup (dCons (dTup (dCons (dC (.int 0)) (dCons (dC (.int 1)) dNil))) (dCons (dTup (dCons (dC (.int 0)) (dCons (dC (.int 2)) dNil))) dNil))) (dCons (dTup (dCons (dTup (dCons (dC (.int 0)) (dCons (dC (.int 1)) dNil))) (dCons (dTup (dCons (dC (.int 1)) (dCons (dC (.int 1)) dNil))) (dCons (dTup (dCons (dC (.int 0)) (dCons (dC (.int 1)) dNil))) dNil)))) (dCons (dTup (dCons (dLstV (dCons (dC (.int 0)) (dCons (dC (.int 1)) dNil))) (dCons (dTup (dCons (dC (.int 0)) (dCons (dC (.int 1)) dNil))) dNil))) (dCons (dLstV dNil) (dCons (dLstV (dCons (dC (.int 0)) (dCons (dC (.int 1)) dNil))) (dCons (dLstV (dCons (dTup (dCons (dC (.int 0)) (dCons (dC (.int 1)) dNil))) (dCons (dTup (dCons (dC (.int 0)) (dCons (dC (.int 1)) dNil))) dNil))) (dCons (dDict []) (dCons (dDict [(.str "A", .int 1)]) (dCons (dTup (dCons (dC (.str "vertex")) (dCons (dC (.int 0)) dNil))) (dCons (dTup (dCons (dC (.str "edge")) (dCons (dC (.int 0)) dNil))) (dCons (dTup (dCons (dC (.str "face")) (dCons (dC (.int 0)) dNil))) (dCons (dTup (dCons (dC (.str "face")) (dCons (dC (.int 1)) dNil))) (dCons (dTup (dCons (dC (.str "face")) (dCons (dC (.bool true)) dNil))) (dCons (dTup (dCons (dC (.str "vertex")) (dCons (dNeg (dC (.int 1))) dNil))) (dCons (dTup (dCons (dC (.str "cell")) (dCons (dC (.int 0)) dNil))) (dCons (dLstV (dCons (dC (.str "face")) (dCons (dC (.int 0)) dNil))) (dCons (dTup (dCons (dC (.str "spot")) (dCons (dVar 1) dNil))) (dCons (dTup (dCons (dC (.str "spot")) (dCons (dTup (dCons (dVar 1) dNil)) dNil))) (dCons (dTup (dCons (dC (.str "spot")) (dCons (dVar 1) (dCons (dVar 2) dNil)))) (dCons (dTup (dCons (dC (.str "path")) (dCons (dTup (dCons (dVar 1) (dCons (dVar 2) dNil))) dNil))) (dCons (dTup (dCons (dC (.str "path")) (dCons (dTup (dCons (dVar 1) (dCons (dVar 1) dNil))) dNil))) (dCons (dTup (dCons (dC (.str "path")) (dCons (dTup (dCons (dVar 1) dNil)) dNil))) (dCons (dTup (dCons (dC (.str "path")) (dCons (dTup dNil) dNil))) (dCons (dTup (dCons (dC (.str "area")) (dCons (dTup (dCons (dVar 1) (dCons (dVar 2) (dCons (dVar 3) dNil)))) dNil))) (dCons (dTup (dCons (dC (.str "area")) (dCons (dTup (dCons (dVar 1) (dCons (dVar 2) (dCons (dVar 1) dNil)))) dNil))) (dCons (dTup (dCons (dC (.str "area")) (dCons (dTup (dCons (dVar 1) (dCons (dVar 2) dNil))) dNil))) (dCons (dTup (dCons (dC (.str "area")) (dCons (dLstV (dCons (dVar 1) (dCons (dVar 2) (dCons (dVar 3) dNil)))) dNil))) (dCons (dTup (dCons (dC (.str "rim")) (dCons (dTup (dCons (dC (.str "spot")) (dCons (dVar 1) dNil))) dNil))) (dCons (dTup (dCons (dC (.str "rim")) dNil)) (dCons (dTup (dCons (dC (.str "both")) (dCons (dTup (dCons (dC (.str "spot")) (dCons (dVar 1) dNil))) (dCons (dTup (dCons (dC (.str "spot")) (dCons (dVar 2) dNil))) dNil)))) (dCons (dTup (dCons (dC (.str "both")) (dCons (dTup (dCons (dC (.str "spot")) (dCons (dVar 1) dNil))) dNil))) (dCons (dTup (dCons (dC (.str "not")) (dCons (dTup (dCons (dC (.str "spot")) (dCons (dVar 1) dNil))) dNil))) (dCons (dTup (dCons (dC (.str "closure")) (dCons (dC (.str "A")) dNil))) (dCons (dTup (dCons (dC (.str "inner")) (dCons (dTup (dCons (dC (.str "spot")) (dCons (dVar 2) dNil))) (dCons (dTup (dCons (dC (.str "spot")) (dCons (dVar 2) dNil))) dNil)))) (dCons (dTup (dCons (dTup (dCons (dC (.str "A")) (dCons (dTup (dCons (dC (.str "spot")) (dCons (dVar 1) dNil))) dNil))) dNil)) (dCons (dTup (dCons (dTup (dCons (dC (.str "B")) (dCons (dTup (dCons (dC (.str "spot")) (dCons (dVar 1) dNil))) dNil))) (dCons (dTup (dCons (dC (.str "A")) (dCons (dTup (dCons (dC (.str "spot")) (dCons (dVar 1) dNil))) dNil))) dNil))) (dCons (dTup (dCons (dTup (dCons (dC (.str "a")) (dCons (dTup (dCons (dC (.str "spot")) (dCons (dVar 1) dNil))) dNil))) dNil)) (dCons (dTup (dCons (dTup (dCons (dC (.str "A")) (dCons (dVar 1) dNil))) dNil)) (dCons (dTup (dCons (dTup (dCons (dC (.str "A")) (dCons (dTup (dCons (dC (.str "spot")) (dCons (dVar 1) dNil))) dNil))) (dCons (dTup (dCons (dC (.str "A")) (dCons (dTup (dCons (dC (.str "spot")) (dCons (dVar 2) dNil))) dNil))) dNil))) (dCons (dTup (dCons (dTup (dCons (dVar 1) (dCons (dVar 2) dNil))) (dCons (dTup (dCons (dVar 2) (dCons (dVar 1) dNil))) dNil))) (dCons (dTup (dCons (dTup (dCons (dVar 1) (dCons (dVar 1) dNil))) dNil)) dNil)))))))))))))))))))))))))))))))))))))))))))))))))))))))))))))))))))))))))))))) (hName 4))
def b_odd_3 : TSd := (dRet (dFn0 sp_one_of (dCons (dVar 0) (dCons (dVar 4) dNil))))
def b_odd : TSd := (dSeq b_odd_1 (dSeq b_odd_2 b_odd_3))
def b_bent_1 (sp_self : SpD) : TSd := (dIfS (dAndT (dTst (dIs "tuple" (dVar 1))) (dAndT (dTst (dBin rNeV (dVar 1) (dTup dNil))) (dTst (dBin rGtD (dFn0 sp_draw (dCons (dVar 0) (dCons (dC (.int 5)) dNil))) (dC (.int 0)))))) (dSeq (dAsg (dFn0 sp_draw (dCons (dVar 0) (dCons (dCall cLen (dCons (dVar 1) dNil)) dNil))) (hName 2)) (dRet (dBin rAddD (dBin rAddD (dSl (dVar 1) dNoP (dPart (dVar 2))) (dTup (dCons (dFn0 sp_self (dCons (dVar 0) (dCons (dBin rIxD (dVar 1) (dVar 2)) dNil))) dNil))) (dSl (dVar 1) (dPart (dBin rAddD (dVar 2) (dC (.int 1)))) dNoP)))) dNext)
def b_bent_2 (sp_self : SpD) : TSd := (dAsg (dFn0 sp_draw (dCons (dVar 0) (dCons (dC (.int 9)) dNil))) (hName 3))
def b_bent_3 (sp_self : SpD) : TSd := (dIfS (dAndT (dTst (dIs "tuple" (dVar 1))) (dTst (dBin rLtD (dVar 3) (dC (.int 7))))) (dRet (dBin rIxD (dTup (dCons (dCall cListV (dCons (dVar 1) dNil)) (dCons (dSl (dVar 1) dNoP (dPart (dNeg (dC (.int 1))))) (dCons (dBin rAddD (dVar 1) (dSl (dVar 1) (dPart (dNeg (dC (.int 1)))) dNoP)) (dCons (dRev (dVar 1)) (dCons (dSl (dVar 1) (dPart (dC (.int 1))) dNoP) (dCons (dBin rAddD (dSl (dVar 1) dNoP (dPart (dC (.int 1)))) (dVar 1)) (dCons (dTup (dCons (dVar 1) dNil)) dNil)))))))) (dVar 3))) dNext)
def b_bent_4 (sp_self : SpD) : TSd := (dIfS (dAndT (dTst (dIs "int" (dVar 1))) (dTst (dBin rLtD (dVar 3) (dC (.int 6))))) (dRet (dBin rIxD (dTup (dCons (dBin rAddD (dVar 1) (dC (.int 1))) (dCons (dBin rSubD (dC (.int 0)) (dVar 1)) (dCons (dBin rMulD (dC (.int 2)) (dVar 1)) (dCons (dBin rSubD (dVar 1) (dC (.int 2))) (dCons (dBin rEqV (dVar 1) (dC (.int 1))) (dCons (dCall cStrI (dCons (dVar 1) dNil)) dNil))))))) (dVar 3))) dNext)
def b_bent_5 (sp_self : SpD) : TSd := (dRet (dFn0 sp_odd (dCons (dVar 0) dNil)))
def b_bent (sp_self : SpD) : TSd := (dSeq (b_bent_1 sp_self) (dSeq (b_bent_2 sp_self) (dSeq (b_bent_3 sp_self) (dSeq (b_bent_4 sp_self) (b_bent_5 sp_self)))))
def b_l_is_whole : TSd := (dRet (dAnd (dIs "int" (dVar 0)) (dNot (dIs "bool" (dVar 0)))))
def b_is_lot : TSd := (dRet (dAnd (dIs "tuple" (dVar 0)) (dChain rLeD rLeD (dVar 1) (dCall cLen (dCons (dVar 0) dNil)) (dVar 2))))
def b_l_is_fraction_1 : TSd := (dIfS (dOrT (dNotT (dTst (dFn0 sp_is_lot (dCons (dVar 0) (dCons (dC (.int 2)) (dCons (dC (.int 2)) dNil)))))) (dNotT (dTst (dCall cAll (dCons (dLcV (dIter (dVar 0)) 1 dYes (dFn0 sp_l_is_whole (dCons (dVar 1) dNil))) dNil))))) (dRet (dC (.bool false))) dNext)
def b_l_is_fraction_2 : TSd := (dRet (dAnd (dBin rGtD (dBin rIxD (dVar 0) (dC (.int 1))) (dC (.int 0))) (dBin rEqV (dFn0 sp_divisor (dCons (dBin rIxD (dVar 0) (dC (.int 0))) (dCons (dBin rIxD (dVar 0) (dC (.int 1))) dNil))) (dC (.int 1)))))
def b_l_is_fraction : TSd := (dSeq b_l_is_fraction_1 b_l_is_fraction_2)
def b_is_told : TSd := (dRet (dAnd (dFn0 sp_is_lot (dCons (dVar 0) (dCons (dC (.int 2)) (dCons (dC (.int 2)) dNil)))) (dCall cAll (dCons (dLcV (dIter (dVar 0)) 1 dYes (dFn0 sp_l_is_fraction (dCons (dVar 1) dNil))) dNil))))
def b_l_sign : TSd := (dRet (dIf (dTst (dBin rGtD (dVar 0) (dC (.int 0)))) (dC (.int 1)) (dIf (dTst (dBin rEqV (dVar 0) (dC (.int 0)))) (dC (.int 0)) (dNeg (dC (.int 1))))))
end LB
local macro_rules | `(tactic| walk_at "val") => `(tactic| repeat' (first | exact DL.vls_nil | apply DL.vls_cons | exact DL.val_c | exact DL.val_dict | exact DL.val_neg | exact DL.val_var rfl | apply DL.val_tup | apply DL.val_lst | apply DL.val_lstV | exact DL.val_pow ⟨by decide, by decide, by decide⟩ | decide))
local macro_rules | `(tactic| walk_at "st") => `(tactic| simp only [DL.startD, List.map_cons, List.map_nil, List.length_cons, List.length_nil, Nat.reduceAdd, Nat.reduceSub, List.replicate_succ, List.replicate_zero, List.cons_append, List.nil_append, List.append_nil, Nat.sub_self, Nat.zero_add])
local macro_rules | `(tactic| walk_at "go") => `(tactic| simp only [↓DL.dSeq, ↓DL.dNext, ↓DL.dAsg, ↓DL.dRet, ↓DL.dRetN, ↓DL.dIfS, ↓DL.dDrop, ↓DL.dBin, ↓DL.dCons, ↓DL.dNil, ↓DL.dTup, ↓DL.dC, ↓DL.dNeg, ↓DL.dAnd, ↓DL.dOr, ↓DL.dNot, ↓DL.dIf, ↓DL.dTst, ↓DL.asB, ↓DL.dChain, ↓DL.dAndT, ↓DL.dOrT, ↓DL.dNotT, ↓DL.dCall, ↓DL.dFn0, ↓DL.dFnK, ↓DL.dIs, ↓DL.dSl, ↓DL.dNoP, ↓DL.dPart, ↓DL.dRev, ↓DL.dLst, ↓DL.dLstV, ↓DL.cListV, ↓DL.dDict, ↓DL.dPar, ↓DL.dPar3, ↓DL.hTup, ↓DL.hCons, ↓DL.nil_go, ↓DL.hName, ↓DL.hSub, ↓DL.rI2, ↓DL.rSubD, ↓DL.rMulD, ↓DL.rMulX, ↓DL.rDivF, ↓DL.rDivD, ↓DL.rModD, ↓DL.rPowD, ↓DL.rLtD, ↓DL.rLeD, ↓DL.rGtD, ↓DL.rGeD, ↓DL.rAddD, ↓DL.ixt_0, ↓DL.ixt_1, ↓DL.ixt_2, ↓DL.ixt_3, ↓DL.ixt_4, ↓DL.ixl_0, ↓DL.ixl_1, ↓DL.ixl_2, ↓DL.ixl_3, ↓DL.ixl_4, ↓DL.rEqV, ↓DL.rNeV, ↓DL.rSlD, ↓DL.cLen, ↓DL.cAbs, ↓DL.cInt, ↓DL.cStrI, ↓DL.cDivmod, ↓DL.cMin, ↓DL.cMax, ↓DL.cGcd, ↓DL.cLcm, ↓DL.cAll, ↓DL.cRepr, ↓DL.cList, ↓DL.cTuple, ↓DL.rC1, ↓DL.rC2, ↓DL.dNever, ↓DL.dIter, ↓DL.dRng1, ↓DL.dRng2, ↓DL.dYes,
  ↓DL.frz_d, ↓DL.var_zero, ↓DL.var_succ, ↓DL.var_set, ↓DL.var_ne, DL.own_some, DL.no_own2, DL.eqv_int, DL.sh_int, DL.sh_bool, DL.kit_int, DL.kit_bool, DL.kit_tuple, DL.kit_str, DL.is_int, DL.is_bool, DL.is_tuple, DL.is_str, DL.pures_nil, DL.pures_cons, Option.map_some, List.length_cons, List.length_nil, List.length_set, List.map_cons, List.map_nil, DL.pick, List.filterMap_cons, List.filterMap_nil,
  true_and, and_true, ite_true, ite_false, if_true, if_false, reduceIte, reduceCtorEq, ne_eq, not_false_eq_true, Nat.reduceAdd, Nat.reduceLT, Nat.reduceEqDiff, decide_eq_true_eq, Bool.not_true, Bool.not_false, Bool.false_eq_true, eq_self])
local macro_rules | `(tactic| walk_at "gk") => `(tactic| simp only [↓LB.sp_divisor, ↓LB.sp_part, ↓LB.sp_place, ↓LB.sp_is_whole, ↓LB.sp_l_is_whole, ↓LB.sp_is_row, ↓LB.sp_is_lot, ↓LB.sp_is_fraction, ↓LB.sp_l_is_fraction, ↓LB.sp_is_place, ↓LB.sp_is_point, ↓LB.sp_is_told, ↓LB.sp_told, ↓LB.sp_own, ↓LB.sp_side, ↓LB.sp_l_is_less, ↓LB.sp_l_lies_on, ↓LB.sp_l_sign, ↓LB.sp_sign, ↓LB.sp_scaled, ↓LB.sp_crossed, ↓LB.sp_along, ↓LB.sp_is_less, ↓DL.dSeq, ↓DL.dNext, ↓DL.dAsg, ↓DL.dRet, ↓DL.dRetN, ↓DL.dIfS, ↓DL.dDrop, ↓DL.dBin, ↓DL.dCons, ↓DL.dNil, ↓DL.dTup, ↓DL.dC, ↓DL.dNeg, ↓DL.dAnd, ↓DL.dOr, ↓DL.dNot, ↓DL.dIf, ↓DL.dTst, ↓DL.asB, ↓DL.dChain, ↓DL.dAndT, ↓DL.dOrT, ↓DL.dNotT, ↓DL.dCall, ↓DL.dFn0, ↓DL.dFnK, ↓DL.dIs, ↓DL.dSl, ↓DL.dNoP, ↓DL.dPart, ↓DL.dRev, ↓DL.dLst, ↓DL.dLstV, ↓DL.cListV, ↓DL.dDict, ↓DL.dPar, ↓DL.dPar3, ↓DL.hTup, ↓DL.hCons, ↓DL.nil_go, ↓DL.hName, ↓DL.hSub, ↓DL.rI2, ↓DL.rSubD, ↓DL.rMulD, ↓DL.rMulX, ↓DL.rDivF, ↓DL.rDivD, ↓DL.rModD, ↓DL.rPowD, ↓DL.rLtD, ↓DL.rLeD, ↓DL.rGtD, ↓DL.rGeD, ↓DL.rAddD, ↓DL.ixt_0, ↓DL.ixt_1, ↓DL.ixt_2, ↓DL.ixt_3, ↓DL.ixt_4, ↓DL.ixl_0, ↓DL.ixl_1, ↓DL.ixl_2, ↓DL.ixl_3, ↓DL.ixl_4, ↓DL.rEqV, ↓DL.rNeV, ↓DL.rSlD, ↓DL.cLen, ↓DL.cAbs, ↓DL.cInt, ↓DL.cStrI, ↓DL.cDivmod, ↓DL.cMin, ↓DL.cMax, ↓DL.cGcd, ↓DL.cLcm, ↓DL.cAll, ↓DL.cRepr, ↓DL.cList, ↓DL.cTuple, ↓DL.rC1, ↓DL.rC2, ↓DL.dNever, ↓DL.dIter, ↓DL.dRng1, ↓DL.dRng2, ↓DL.dYes,
  ↓DL.frz_d, ↓DL.var_zero, ↓DL.var_succ, ↓DL.var_set, ↓DL.var_ne, DL.own_some, DL.no_own2, DL.eqv_int, DL.sh_int, DL.sh_bool, DL.kit_int, DL.kit_bool, DL.kit_tuple, DL.kit_str, DL.is_int, DL.is_bool, DL.is_tuple, DL.is_str, DL.pures_nil, DL.pures_cons, Option.map_some, List.length_cons, List.length_nil, List.length_set, List.map_cons, List.map_nil, DL.pick, List.filterMap_cons, List.filterMap_nil,
  true_and, and_true, ite_true, ite_false, if_true, if_false, reduceIte, reduceCtorEq, ne_eq, not_false_eq_true, Nat.reduceAdd, Nat.reduceLT, Nat.reduceEqDiff, decide_eq_true_eq, Bool.not_true, Bool.not_false, Bool.false_eq_true, eq_self])
namespace LB
open PySem PySem.Spec PyProof.Rows L2 DL
theorem mulW {i j : Int} {a b : Nat} (ha : B a i) (hb : B b j) (h0 : 0 < a) (h1 : 0 < b) (h : a + b ≤ 1000000) : CMulW i j := wide_mul ha hb h0 h1 h
theorem B_of {n : Nat} {i : Int} (k : Nat) (hk : i.natAbs < k) (h : k ≤ 2 ^ n) : B n i := Nat.lt_of_lt_of_le hk h
theorem r_is_whole : ∀ ds st Q, sp_is_whole ds st Q → b_is_whole { nx := fun _ s' => Q (.d .none) s', rt := Q } (startD N_is_whole ds) st := by
  intro ds st Q h
  unfold sp_is_whole at h
  split at h
  · rename_i x
    walk_at "st"
    unfold b_is_whole
    walk_at "go"
    cases x <;> simpa [isW] using h
  · exact h.elim
theorem r_is_row : ∀ ds st Q, sp_is_row ds st Q → b_is_row { nx := fun _ s' => Q (.d .none) s', rt := Q } (startD N_is_row ds) st := by
  intro ds st Q h
  unfold sp_is_row at h
  split at h
  · rename_i x lo hi
    walk_at "st"
    unfold b_is_row
    walk_at "go"
    cases x with
    | tuple xs =>
      simp only [isRow] at h
      walk_at "go"
      by_cases h1 : lo ≤ (xs.length : Int)
      · simpa [h1] using h
      · simpa [h1] using h
    | _ => simpa [isRow] using h
  · exact h.elim
theorem small_div {i j : Int} (h0 : 0 < j) (h : j < 2 ^ 40) : CDivP i j := by
  refine ⟨h0, ?_⟩
  have hj : ¬ (j == 0) = true := by simpa using (show j ≠ 0 by omega)
  have l : j.natAbs.log2 ≤ 39 := PySem.W.mg_log (k := 39) (by omega)
  show (decide ((if j == 0 then 0 else j.natAbs.log2 / 30 + 1) > 300) && _) = false
  rw [if_neg hj, decide_eq_false (by omega), Bool.false_and]
theorem bm1 (v : Int) : B 40 (v % 2147483629) := by
  have t0 := Int.emod_nonneg v (show (2147483629 : Int) ≠ 0 by decide)
  have t1 := Int.emod_lt_of_pos v (show (0 : Int) < 2147483629 by decide)
  unfold B
  omega
theorem bm2 (s : Int) : B 40 (s % 6007 + 50021) := by
  have t0 := Int.emod_nonneg s (show (6007 : Int) ≠ 0 by decide)
  have t1 := Int.emod_lt_of_pos s (show (0 : Int) < 6007 by decide)
  unfold B
  omega
theorem r_draw : ∀ ds st Q, sp_draw ds st Q → b_draw { nx := fun _ s' => Q (.d .none) s', rt := Q } (startD N_draw ds) st := by
  intro ds st Q h
  unfold sp_draw at h
  split at h
  · rename_i p m
    obtain ⟨hm, hm2, n, xs, hst, ⟨x, y, z, rfl, h1, h2, h3, h4⟩, hn, k⟩ := h
    refine ⟨_, rfl, _, _, hst, rfl, trivial, ?_⟩
    show if decide (0 < x) = true then _ else _
    by_cases hx : 0 < x
    · rw [if_pos (decide_eq_true hx)]
      refine ⟨_, rfl, _, _, hst, rfl, _, rfl, small_div hm hm2, .inl ⟨rfl, _, rfl, _, 0, hst, rfl, rfl, _, rfl, .inl ?_⟩⟩
      exact k _ _ ⟨_, rfl, Int.emod_nonneg _ (by omega), Int.emod_lt_of_pos _ hm⟩ ⟨_, y, z, rfl, h1, h2, h3, by omega⟩
    · rw [if_neg (by simpa using hx)]
      have hz : 0 ≤ z + 1 := by omega
      refine ⟨_, rfl, _, _, hst, rfl, .inl ⟨_, rfl, _, 2, hst, rfl, ?_⟩⟩
      have e1 : (put st p ([I x, I y, I z].set 2 (I (z + 1)))) p = some [I x, I y, I (z + 1)] := put_same
      have bz : B 64 (z + 1) := by
        unfold B
        omega
      refine ⟨_, rfl, _, _, e1, rfl, _, rfl, _, _, e1, rfl, mulW (a := 20) (b := 64) (by unfold B; decide) bz (by decide) (by decide) (by decide), ⟨trivial, (show (0 : Int) < 2147483629 by decide), .inl ?_⟩⟩
      refine ⟨_, rfl, _, rfl, trivial, (show (0 : Int) < 6007 by decide), ?_⟩
      refine ⟨mulW (a := 40) (b := 40) (bm1 _) (bm2 _) (by decide) (by decide) (by decide), ?_⟩
      refine ⟨_, rfl, _, _, e1, rfl, mulW (a := 20) (b := 64) (by unfold B; decide) bz (by decide) (by decide) (by decide), trivial, (show (0 : Int) < 2147483629 by decide), .inl ?_⟩
      refine ⟨_, rfl, _, 1, e1, rfl, ?_⟩
      refine ⟨_, rfl, _, _, put_same, rfl, wide_div (b := 20) (by decide) (by decide) (by decide) (by decide), trivial, _, rfl, hm, .inl ?_⟩
      rw [put_put]
      exact k _ _ ⟨_, rfl, Int.emod_nonneg _ (by omega), Int.emod_lt_of_pos _ hm⟩ ⟨x, _, z + 1, rfl, Int.emod_nonneg _ (by decide), Int.emod_lt_of_pos _ (by decide), hz, by omega⟩
  · exact h.elim
end LB
namespace LB
open PySem PySem.Spec PyProof.Rows L2 DL
theorem cut_ints {α β : Type} (f : α → β) (xs : List α) (lo hi : Option Int) : cutP (xs.map f) lo hi = (cutP xs lo hi).map f := by
  unfold cutP
  rw [List.length_map, List.map_take, List.map_drop]
theorem mixB {m : Int} (h0 : 0 ≤ m) (h1 : m < 2147483629) : B 40 m := by
  unfold B
  omega
theorem r_spring (c : Int) (hc : 0 ≤ c) (hc2 : c < 1000000) : ∀ ds st Q, sp_spring ds st Q → b_spring c { nx := fun _ s' => Q (.d .none) s', rt := Q } (startD N_spring ds) st := by
  intro ds st Q h
  unfold sp_spring at h
  split at h
  · rename_i ns t
    obtain ⟨hl, h0, h1, k⟩ := h
    walk_at "st"
    have bt : B 40 t := by
      unfold B
      omega
    refine ⟨_, rfl, mulW (a := 40) (b := 40) (by unfold B; decide) bt (by decide) (by decide) (by decide), .inl ?_⟩
    refine ⟨_, rfl, ?_⟩
    refine ⟨fun _ e' st' => st' = st ∧ ∃ (m : Int) (c : Option D), e' = [some (.scr ns), some (.d (.int t)), some (I m), c, none] ∧ 0 ≤ m ∧ m < 2147483629, ⟨rfl, c + 9241 * t, none, rfl, by omega, by omega⟩, ?_⟩
    rintro i e' st' ⟨rfl, m, c, rfl, m0, m1⟩
    refine ⟨(fun a ds z => nomatch z), fun _ => ?_, fun d hd => ?_⟩
    · -- behind the loop
      have own : ∃ o : Int, ∀ (K : D → Sto → Prop), K (I o) st' → (dIf (dTst (dBin rLtD (dVar 1) (dCall cLen (dCons (dVar 0) dNil)))) (dCall cInt (dCons (dBin rIxD (dVar 0) (dVar 1)) dNil)) (dC (.int 0))) [some (.scr ns), some (.d (.int t)), some (I m), c, none] st' K := by
        by_cases ht : t < ns.length
        · have hlt : t.toNat < ns.length := by omega
          refine ⟨ns[t.toNat], fun K hK => ?_⟩
          refine ⟨_, rfl, _, rfl, _, rfl, trivial, ?_⟩
          show if decide (t < ((ns.map fun n => D.d (.int n)).length : Int)) = true then _ else _
          rw [if_pos (decide_eq_true (by rw [List.length_map]; exact ht))]
          refine ⟨_, rfl, _, rfl, _, D.d (.int ns[t.toNat]), rfl, ?_, trivial, hK⟩
          have e1 : ((t.toNat : Nat) : Int) = t := Int.toNat_of_nonneg h0
          have e2 := atI_nat (xs := ns.map fun n => D.d (.int n)) (j := t.toNat) (v := D.d (.int ns[t.toNat])) (by rw [List.getElem?_map, List.getElem?_eq_getElem hlt]; rfl)
          rw [e1] at e2
          exact e2
        · refine ⟨0, fun K hK => ?_⟩
          refine ⟨_, rfl, _, rfl, _, rfl, trivial, ?_⟩
          show if decide (t < ((ns.map fun n => D.d (.int n)).length : Int)) = true then _ else _
          rw [if_neg (by rw [List.length_map]; simpa using ht)]
          exact hK
      obtain ⟨o, ho⟩ := own
      refine ho _ (.inl ?_)
      unfold b_spring_4 b_spring_5
      walk_at "go"
      have mb := mixB m0 m1
      have q0 := Int.emod_nonneg o (show (2147483587 : Int) ≠ 0 by decide)
      have q1 := Int.emod_lt_of_pos o (show (0 : Int) < 2147483587 by decide)
      refine ⟨mulW (a := 40) (b := 40) mb (by unfold B; decide) (by decide) (by decide) (by decide), by decide, mulW (a := 40) (b := 40) (by unfold B; omega) (by unfold B; decide) (by decide) (by decide) (by decide), by decide, ?_⟩
      have fin : ∀ v w : Int, 0 ≤ w → w < 2147483629 → mkL [D.d (.int v), D.d (.int w), D.d (.int 0)] st' (frz Q) := fun v w h2 h3 => .inr fun p hp => .inl (k p _ hp ⟨v, w, 0, rfl, h2, h3, by omega, by omega⟩)
      have z0 := Int.emod_nonneg (m * 61 + o % 2147483587 * 30011 + 7) (show (2147483629 : Int) ≠ 0 by decide)
      have z1 := Int.emod_lt_of_pos (m * 61 + o % 2147483587 * 30011 + 7) (show (0 : Int) < 2147483629 by decide)
      have three : 3 ≤ sizeLine := by decide
      by_cases hneg : o < 0
      · rw [if_pos hneg]
        exact ⟨three, fin _ _ z0 z1⟩
      · rw [if_neg hneg]
        refine ⟨⟨by decide, by decide, by decide⟩, ?_⟩
        split
        · exact ⟨three, fin _ _ z0 z1⟩
        · exact ⟨three, fin _ _ z0 z1⟩
    · have hd' : (((cutP ns none (some 9)).map PyData.int).map D.d)[i]? = some d := hd
      rw [List.getElem?_map, List.getElem?_map] at hd'
      cases hc : (cutP ns none (some 9))[i]? with
      | none =>
        rw [hc] at hd'
        cases hd'
      | some v =>
        rw [hc] at hd'
        cases hd'
        show (dAsg _ _) _ _ _
        walk_at "go"
        refine ⟨mulW (a := 40) (b := 40) (mixB m0 m1) (by unfold B; decide) (by decide) (by decide) (by decide), by decide, by decide, _, some (D.d (.int v)), rfl, Int.emod_nonneg _ (by decide), Int.emod_lt_of_pos _ (by decide)⟩
  · exact h.elim
theorem r_one_of : ∀ ds st Q, sp_one_of ds st Q → b_one_of { nx := fun _ s' => Q (.d .none) s', rt := Q } (startD N_one_of ds) st := by
  intro ds st Q h
  unfold sp_one_of at h
  split at h
  · rename_i p xs
    obtain ⟨h0, h1, n, ys, hst, hy, hn, k⟩ := h
    refine ⟨_, rfl, _, rfl, _, rfl, _, rfl, by rw [List.length_map]; omega, by rw [List.length_map]; omega, n, ys, hst, hy, hn, ?_⟩
    rintro _ ys' ⟨i, rfl, i0, i1⟩ hy'
    rw [List.length_map] at i1
    have hlt : i.toNat < xs.length := by omega
    refine ⟨_, D.d xs[i.toNat], rfl, ?_, .inl (k _ ys' ⟨_, rfl, List.getElem_mem hlt⟩ hy')⟩
    have e1 : ((i.toNat : Nat) : Int) = i := Int.toNat_of_nonneg i0
    have e2 := atI_nat (xs := xs.map D.d) (j := i.toNat) (v := D.d xs[i.toNat]) (by rw [List.getElem?_map, List.getElem?_eq_getElem hlt]; rfl)
    rw [e1] at e2
    exact e2
  · rename_i p xs
    obtain ⟨h0, h1, n, ys, hst, hy, hn, k⟩ := h
    refine ⟨_, rfl, _, rfl, _, rfl, by omega, by omega, n, ys, hst, hy, hn, ?_⟩
    rintro _ ys' ⟨i, rfl, i0, i1⟩ hy'
    have hlt : i.toNat < xs.length := by omega
    refine ⟨xs[i.toNat], ?_, .inl (k _ ys' ⟨_, rfl, List.getElem_mem hlt⟩ hy')⟩
    have e1 : ((i.toNat : Nat) : Int) = i := Int.toNat_of_nonneg i0
    have e2 := atI_nat (xs := xs) (j := i.toNat) (List.getElem?_eq_getElem hlt)
    rw [e1] at e2
    exact e2
  · exact h.elim
theorem r_odd : ∀ ds st Q, sp_odd ds st Q → b_odd { nx := fun _ s' => Q (.d .none) s', rt := Q } (startD N_odd ds) st := by
  intro ds st Q h
  unfold sp_odd at h
  split at h
  · rename_i p
    obtain ⟨n, ys, hst, hy, hn, k⟩ := h
    refine ⟨by decide, by decide, by decide, by decide, by decide, by decide, by decide, by decide, by decide, by decide, .inl ⟨rfl, rfl, ?_⟩⟩
    dsimp only
    simp only [↓dSeq, ↓dAsg]
    apply lstV_then
    · walk_at "val"
    · decide
    · intro xs hl
      refine Or.inl ⟨_, rfl, _, rfl, ?_, ?_, n, ys, hst, hy, hn, fun d ys' hd hy' => .inl (k d ys' (let ⟨x, e, _⟩ := hd; ⟨x, e⟩) hy')⟩
      · rw [hl]
        decide
      · rw [hl]
        decide
  · exact h.elim
theorem r_divisor : ∀ ds st Q, sp_divisor ds st Q → b_divisor { nx := fun _ s' => Q (.d .none) s', rt := Q } (startD N_divisor ds) st := by
  intro ds st Q h
  unfold sp_divisor at h
  split at h
  · rename_i a b
    walk_at "st"
    refine ⟨_, rfl, trivial, _, rfl, trivial, ?_⟩
    refine ⟨fun m e' st' => st' = st ∧ ∃ f : Nat, e' = [some (I a), some (I b), some (I f), some (I m)] ∧ Nat.gcd f m = Nat.gcd a.natAbs b.natAbs, ⟨b.natAbs, rfl, a.natAbs, ?_, rfl⟩, ?_⟩
    · have ha : (if a < 0 then -a else a) = (a.natAbs : Int) := by split <;> omega
      have hb : (if b < 0 then -b else b) = (b.natAbs : Int) := by split <;> omega
      show [_, _, some (D.d (.int (if a < 0 then -a else a))), some (D.d (.int (if b < 0 then -b else b)))] = _
      rw [ha, hb]
    · rintro m e' st' ⟨rfl, f, rfl, hg⟩
      refine ⟨_, rfl, ?_⟩
      show if (!decide ((m : Int) = 0)) = true then _ else _
      by_cases hm : m = 0
      · subst hm
        rw [if_neg (by decide)]
        rw [Nat.gcd_zero_right] at hg
        refine ⟨_, rfl, .inl ?_⟩
        show Q (I (f : Int)) st'
        rw [hg]
        exact h
      · rw [if_pos (by simpa using hm)]
        refine ⟨_, rfl, _, rfl, trivial, _, rfl, by omega, f % m, Nat.mod_lt _ (Nat.pos_of_ne_zero hm), rfl, m, ?_, ?_⟩
        · show [_, _, some (I (m : Int)), some (D.d (.int ((f : Int) % (m : Int))))] = _
          rw [← Int.natCast_emod]
        · rw [Nat.gcd_comm, ← Nat.gcd_rec, Nat.gcd_comm]
          exact hg
  · exact h.elim
end LB
namespace LB
open PySem PySem.Spec PyProof.Rows L2 DL
theorem is_then {T : String} (hT : ∀ d : PyData, (kitB (tyD (.d d)) T).isSome = true) {i : Nat} {e : Ed} {st : Sto} {Q : Kd} {x : PyData} (h : e[i]? = some (some (.d x))) (q : Q (.d (.bool (isT T (.d x)))) st) : dIs T (dVar i) e st Q := ⟨_, h, (fun a z => nomatch z), hT _, q⟩
theorem kt (d : PyData) : (kitB (tyD (.d d)) "tuple").isSome = true := kit_all (by decide +kernel) d
theorem ki (d : PyData) : (kitB (tyD (.d d)) "int").isSome = true := kit_all (by decide +kernel) d
theorem cutP_len {α : Type} (xs : List α) (lo hi : Option Int) : (cutP xs lo hi).length ≤ xs.length := by
  unfold cutP
  rw [List.length_take, List.length_drop]
  omega
theorem at_small {α : Type} {xs : List α} {i : Int} (h0 : 0 ≤ i) (h1 : i < xs.length) : ∃ x, x ∈ xs ∧ atI xs i = some x := by
  have hlt : i.toNat < xs.length := by omega
  have e1 : ((i.toNat : Nat) : Int) = i := Int.toNat_of_nonneg h0
  have e2 := atI_nat (xs := xs) (j := i.toNat) (List.getElem?_eq_getElem hlt)
  rw [e1] at e2
  exact ⟨_, List.getElem_mem hlt, e2⟩
theorem big_ok {n : Nat} (h : n ≤ 3000) : n ≤ sizeLine := Nat.le_trans h (by decide)
theorem r_bent (k : Nat) (self : SpD) (hs : ∀ j, k = j + 1 → ∀ ds st Q, sp_bentK j ds st Q → self ds st Q) : ∀ ds st Q, sp_bentK k ds st Q → b_bent self { nx := fun _ s' => Q (.d .none) s', rt := Q } (startD N_bent ds) st := by
  intro ds st Q h
  unfold sp_bentK at h
  split at h
  · rename_i p x
    obtain ⟨hx, n, ys, hst, hy, hn, kk⟩ := h
    show b_bent self _ [some (.own p), some (.d x), none, none] st
    -- what follows a draw from nine
    have rest : ∀ (ys : List D) (st : Sto), st p = some ys → SprL ys (n + 2 * k) → (∀ d xs', (∃ x, d = D.d x) → SprL xs' (n + (2 * k + 2)) → Q d (put st p xs')) →
        (dSeq (b_bent_2 self) (dSeq (b_bent_3 self) (dSeq (b_bent_4 self) (b_bent_5 self)))) { nx := fun _ s' => Q (.d .none) s', rt := Q } [some (.own p), some (.d x), none, none] st := by
      intro ys st hst hy kk
      refine ⟨_, rfl, by decide, by decide, n + 2 * k, ys, hst, hy, by omega, ?_⟩
      rintro _ zs ⟨i, rfl, i0, i1⟩ hz
      refine .inl ?_
      have kk1 : ∀ x, Q (.d x) (put st p zs) := fun x => by
        have := kk (.d x) zs ⟨x, rfl⟩ (hz.mono (by omega))
        exact this
      have last : (b_bent_5 self) { nx := fun _ s' => Q (.d .none) s', rt := Q } [some (.own p), some (.d x), none, some (I i)] (put st p zs) := by
        refine ⟨_, rfl, n + 2 * k + 1, zs, put_same, hz, by omega, ?_⟩
        rintro _ ws ⟨w, rfl⟩ hw
        rw [put_put]
        exact .inl (kk _ ws ⟨w, rfl⟩ hw)
      have four : (∀ xs, x ≠ .tuple xs) → (dSeq (b_bent_4 self) (b_bent_5 self)) { nx := fun _ s' => Q (.d .none) s', rt := Q } [some (.own p), some (.d x), none, some (I i)] (put st p zs) := by
        intro nt
        cases x with
        | int v =>
          unfold b_bent_4
          walk_at "go"
          have bv : B 1000 v := by
            cases k <;> exact hx
          split
          · refine ⟨mulW (a := 20) (b := 1000) (by unfold B; decide) bv (by decide) (by decide) (by decide), ?_, ?_, ?_⟩
            · have := PySem.Flt.log2_lt_of (by decide : 0 < 1000) bv
              omega
            · exact big_ok (by decide)
            · obtain ⟨z, hz1, hz2⟩ := at_small (xs := [PyData.int (v + 1), .int (0 - v), .int (2 * v), .int (v - 2), .bool (decide (v = 1)), .str (toString v : String)]) i0 (by simpa using (by omega))
              exact ⟨z, hz2, .inl (kk1 z)⟩
          · exact last
        | tuple xs => exact absurd rfl (nt xs)
        | bool b => exact absurd hx (by cases k <;> exact id)
        | _ =>
          unfold b_bent_4
          walk_at "go"
          exact last
      cases x with
      | tuple xs =>
        have hl : xs.length ≤ 1000 := by
          cases k with
          | zero => exact hx.elim
          | succ k => exact hx.1
        unfold b_bent_3 b_bent_4
        walk_at "go"
        split
        · have c1 := cutP_len xs (some (-1)) none
          have c2 := cutP_len xs none (some 1)
          refine ⟨big_ok (by omega), big_ok (by omega), big_ok (by decide), big_ok (by decide), ?_⟩
          obtain ⟨z, hz1, hz2⟩ := at_small (xs := [PyData.list xs, .tuple (cutP xs none (some (-1))), .tuple (xs ++ cutP xs (some (-1)) none), .tuple xs.reverse, .tuple (cutP xs (some 1) none), .tuple (cutP xs none (some 1) ++ xs), .tuple [.tuple xs]]) i0 (by simpa using (by omega))
          exact ⟨z, hz2, .inl (kk1 z)⟩
        · exact last
      | _ =>
        unfold b_bent_3
        walk_at "go"
        exact four (fun _ => (nomatch ·))
    have go2 : ∀ (ys : List D) (st' : Sto), (∀ d xs', (∃ x, d = D.d x) → SprL xs' (n + (2 * k + 2)) → Q d (put st' p xs')) → st' p = some ys → SprL ys (n + 2 * k) →
        (dSeq (b_bent_2 self) (dSeq (b_bent_3 self) (dSeq (b_bent_4 self) (b_bent_5 self)))) { nx := fun _ s' => Q (.d .none) s', rt := Q } [some (.own p), some (.d x), none, none] st' := fun ys st' kk hst hy => rest ys st' hst hy kk
    have skip := go2 ys st (fun d xs' hd h => kk d xs' hd h) hst (hy.mono (by omega))
    cases x with
    | tuple xs =>
      obtain ⟨j, rfl⟩ : ∃ j, k = j + 1 := by
        cases k with
        | zero => exact hx.elim
        | succ j => exact ⟨j, rfl⟩
      obtain ⟨hl, hsh, hpl⟩ := hx
      refine is_then kt rfl ?_
      rw [is_tuple]
      refine ⟨_, rfl, big_ok (by decide), hsh, by simp [SeqAt.shaped, PyData.canLay0, PyData.canLayAll0, PyData.depth, PyData.depthAll], ?_⟩
      cases xs with
      | nil => exact skip
      | cons x0 xs =>
        refine ⟨_, rfl, by decide, by decide, n, ys, hst, hy, by omega, ?_⟩
        rintro _ zs ⟨i, rfl, i0, i1⟩ hz
        refine ⟨trivial, ?_⟩
        show if decide (0 < i) = true then _ else _
        by_cases hi : 0 < i
        · rw [if_pos (decide_eq_true hi)]
          have hlen : (0 : Int) < ((x0 :: xs).length : Nat) := by
            rw [List.length_cons]
            omega
          refine ⟨_, rfl, _, rfl, hlen, by omega, n + 1, zs, put_same, hz, by omega, ?_⟩
          rintro _ ws ⟨a, rfl, a0, a1⟩ hw
          rw [put_put]
          refine .inl ⟨_, rfl, _, rfl, _, rfl, _, rfl, _, rfl, ?_⟩
          obtain ⟨y, y1, y2⟩ := at_small (xs := x0 :: xs) a0 a1
          refine ⟨y, y2, hs j rfl _ _ _ ⟨hpl y y1, n + 2, ws, put_same, hw, by omega, ?_⟩⟩
          rintro _ vs ⟨z, rfl⟩ hv
          rw [put_put]
          have c1 := cutP_len (x0 :: xs) none (some a)
          have c2 := cutP_len (x0 :: xs) (some (a + 1)) none
          refine ⟨big_ok (by show 1 ≤ 3000; omega), big_ok (by simp only [List.length_cons, List.length_nil] at *; omega), _, rfl, _, rfl, big_ok (by simp only [List.length_cons, List.length_nil, List.length_append] at *; omega), .inl ?_⟩
          exact kk _ vs ⟨_, rfl⟩ (hv.mono (by omega))
        · rw [if_neg (by simpa using hi)]
          refine go2 zs _ (fun d xs' hd h => ?_) put_same (hz.mono (by omega))
          rw [put_put]
          exact kk d xs' hd h
    | _ =>
      refine is_then kt rfl ?_
      rw [is_tuple]
      exact skip
  · exact h.elim
end LB
namespace K01
open PySem PySem.Spec PyProof.Rows L2 DL LB
theorem int_show {n : Nat} {i : Int} (h0 : 0 < n) (h : B n i) : (PyData.int i).shown.length ≤ n + 1 := by
  rw [PyData.shown_int, PySem.ofString_length]
  unfold B at h
  cases i with
  | ofNat m =>
    have : (toString (Int.ofNat m)).length ≤ n := PySem.nat_repr_length_le h0 h
    omega
  | negSucc m =>
    have e : toString (Int.negSucc m) = "-" ++ (m + 1).repr := rfl
    have : ((m + 1).repr).length ≤ n := PySem.nat_repr_length_le h0 h
    rw [e, String.length_append]
    have : ("-" : String).length = 1 := rfl
    omega
end K01
namespace K01
open PySem PySem.Spec PyProof.Rows L2 DL LB
mutual
/-- numbers of at most c bits, no signs beyond what a text may hold -/
def okD (c : Nat) : PyData → Bool
  | .none => true
  | .bool _ => true
  | .int i => decide (i.natAbs < 2 ^ c)
  | .str x => x.cps.toList.all fun n => decide (n < 16 ^ 8)
  | .list xs => okDs c xs
  | .tuple xs => okDs c xs
  | .dict kvs => okKv c kvs
def okDs (c : Nat) : List PyData → Bool
  | [] => true
  | x :: r => okD c x && okDs c r
def okKv (c : Nat) : List (PyData × PyData) → Bool
  | [] => true
  | (a, b) :: r => okD c a && okD c b && okKv c r
end
theorem okDs_iff {c : Nat} : ∀ {xs : List PyData}, okDs c xs = true ↔ ∀ x ∈ xs, okD c x = true
  | [] => by simp [okDs]
  | x :: r => by
    rw [okDs, Bool.and_eq_true, okDs_iff (xs := r)]
    simp
mutual
theorem okD.mono {c d : Nat} (h : c ≤ d) : ∀ x : PyData, okD c x = true → okD d x = true
  | .none, _ => rfl
  | .bool _, _ => rfl
  | .int i, e => by
    simp only [okD, decide_eq_true_eq] at e ⊢
    exact Nat.lt_of_lt_of_le e (Nat.pow_le_pow_right (by decide) h)
  | .str x, e => e
  | .list xs, e => okDs.mono h xs e
  | .tuple xs, e => okDs.mono h xs e
  | .dict kvs, e => okKv.mono h kvs e
theorem okDs.mono {c d : Nat} (h : c ≤ d) : ∀ xs : List PyData, okDs c xs = true → okDs d xs = true
  | [], _ => rfl
  | x :: r, e => by
    rw [okDs, Bool.and_eq_true] at e ⊢
    exact ⟨okD.mono h x e.1, okDs.mono h r e.2⟩
theorem okKv.mono {c d : Nat} (h : c ≤ d) : ∀ xs : List (PyData × PyData), okKv c xs = true → okKv d xs = true
  | [], _ => rfl
  | (a, b) :: r, e => by
    rw [okKv, Bool.and_eq_true, Bool.and_eq_true] at e ⊢
    exact ⟨⟨okD.mono h a e.1.1, okD.mono h b e.1.2⟩, okKv.mono h r e.2⟩
end
theorem log_of {c : Nat} {i : Int} (hc : c ≤ 1000) (e : i.natAbs < 2 ^ c) : i.natAbs.log2 < 1920 := by
  by_cases h : i.natAbs = 0
  · rw [h]
    decide
  · have := (Nat.log2_lt h).mpr e
    omega
mutual
theorem okD.show {c : Nat} (hc : c ≤ 1000) : ∀ x : PyData, okD c x = true → x.showable = true ∧ x.leavesShort 1001 = true
  | .none, _ => ⟨rfl, rfl⟩
  | .bool _, _ => ⟨rfl, rfl⟩
  | .int i, e => by
    simp only [okD, decide_eq_true_eq] at e
    refine ⟨by simp only [PyData.showable, decide_eq_true_eq]; exact log_of hc e, ?_⟩
    simp only [PyData.leavesShort, decide_eq_true_eq]
    exact int_show (n := 1000) (by decide) (Nat.lt_of_lt_of_le e (Nat.pow_le_pow_right (by decide) hc))
  | .str x, e => ⟨rfl, e⟩
  | .list xs, e => by
    rw [PyData.showable, PyData.leavesShort]
    exact okDs.show hc xs e
  | .tuple xs, e => by
    rw [PyData.showable, PyData.leavesShort]
    exact okDs.show hc xs e
  | .dict kvs, e => by
    rw [PyData.showable, PyData.leavesShort]
    exact okKv.show hc kvs e
theorem okDs.show {c : Nat} (hc : c ≤ 1000) : ∀ xs : List PyData, okDs c xs = true → PyData.showableAll xs = true ∧ PyData.leavesShortAll 1001 xs = true
  | [], _ => ⟨rfl, rfl⟩
  | x :: r, e => by
    rw [okDs, Bool.and_eq_true] at e
    have h1 := okD.show hc x e.1
    have h2 := okDs.show hc r e.2
    rw [PyData.showableAll, PyData.leavesShortAll, h1.1, h1.2, h2.1, h2.2]
    exact ⟨rfl, rfl⟩
theorem okKv.show {c : Nat} (hc : c ≤ 1000) : ∀ xs : List (PyData × PyData), okKv c xs = true → PyData.showableKv xs = true ∧ PyData.leavesShortKv 1001 xs = true
  | [], _ => ⟨rfl, rfl⟩
  | (a, b) :: r, e => by
    rw [okKv, Bool.and_eq_true, Bool.and_eq_true] at e
    have h1 := okD.show hc a e.1.1
    have h2 := okD.show hc b e.1.2
    have h3 := okKv.show hc r e.2
    rw [PyData.showableKv, PyData.leavesShortKv, h1.1, h1.2, h2.1, h2.2, h3.1, h3.2]
    exact ⟨rfl, rfl⟩
end
/-! ### how much there is, and how deep -/
theorem bulk_app : ∀ xs ys : List PyData, PyData.bulkAll (xs ++ ys) = PyData.bulkAll xs + PyData.bulkAll ys
  | [], ys => by simp [PyData.bulkAll]
  | x :: r, ys => by
    have := bulk_app r ys
    simp only [List.cons_append, PyData.bulkAll]
    omega
theorem bulk_mem : ∀ {xs : List PyData} {x : PyData}, x ∈ xs → x.bulk + 1 ≤ PyData.bulkAll xs
  | a :: r, x, h => by
    simp only [PyData.bulkAll]
    rcases List.mem_cons.mp h with rfl | h
    · omega
    · have := bulk_mem h
      omega
theorem bulk_rev : ∀ xs : List PyData, PyData.bulkAll xs.reverse = PyData.bulkAll xs
  | [] => rfl
  | x :: r => by
    rw [List.reverse_cons, bulk_app, bulk_rev r]
    simp only [PyData.bulkAll]
    omega
theorem bulk_take (n : Nat) (xs : List PyData) : PyData.bulkAll (xs.take n) + PyData.bulkAll (xs.drop n) = PyData.bulkAll xs := by
  rw [← bulk_app, List.take_append_drop]
theorem bulk_cut (xs : List PyData) (lo hi : Option Int) : PyData.bulkAll (cutP xs lo hi) ≤ PyData.bulkAll xs := by
  unfold cutP
  have h1 := bulk_take (HT.sIx xs.length xs.length hi - HT.sIx xs.length 0 lo) (xs.drop (HT.sIx xs.length 0 lo))
  have h2 := bulk_take (HT.sIx xs.length 0 lo) xs
  omega
theorem depth_le {n : Nat} : ∀ {xs : List PyData}, (∀ x ∈ xs, x.depth ≤ n) → PyData.depthAll xs ≤ n
  | [], _ => by simp [PyData.depthAll]
  | x :: r, h => by
    have h1 := h x List.mem_cons_self
    have h2 := depth_le fun y hy => h y (List.mem_cons_of_mem x hy)
    simp only [PyData.depthAll]
    omega
theorem depth_mem : ∀ {xs : List PyData} {x : PyData}, x ∈ xs → x.depth ≤ PyData.depthAll xs
  | a :: r, x, h => by
    simp only [PyData.depthAll]
    rcases List.mem_cons.mp h with rfl | h
    · omega
    · have := depth_mem h
      omega
/-- what may be shown, and how big it is -/
structure R (c W D : Nat) (x : PyData) : Prop where
  ok : okD c x = true
  bk : x.bulk ≤ W
  dp : x.depth ≤ D
theorem R.up {c W D c' W' D' : Nat} {x : PyData} (h : R c W D x) (hc : c ≤ c') (hW : W ≤ W') (hD : D ≤ D') : R c' W' D' x := ⟨okD.mono hc x h.ok, Nat.le_trans h.bk hW, Nat.le_trans h.dp hD⟩
theorem R.repr {c W D : Nat} {x : PyData} (h : R c W D x) (hc : c ≤ 1000) (hW : W ≤ 10000) (hD : D ≤ 64) : x.showable = true ∧ x.shown.length ≤ sizeLine ∧ x.depth ≤ 64 := by
  obtain ⟨h1, h2⟩ := okD.show hc x h.ok
  have h3 := PyData.shown_le_bulk 1001 (by decide) x h2
  have h4 := h.bk
  refine ⟨h1, ?_, Nat.le_trans h.dp hD⟩
  rw [sizeLine_eq]
  have : (1001 + 2) * x.bulk ≤ 1003 * 10000 := Nat.mul_le_mul (by decide) (by omega)
  omega
end K01
namespace DL
open PySem PySem.Spec PyProof.Rows L2
variable [Tabs]
/-! ### list comprehensions, targets of any form, over tuples that may hold things of one's own -/
mutual
def setD : Pat → D → Ed → Option Ed
  | .nm i, x, e => some (e.set i (some x))
  | .tup ps, .d (.tuple xs), e => setDs ps (xs.map D.d) e
  | .tup ps, .tp xs, e => setDs ps xs e
  | .tup _, _, _ => none
def setDs : List Pat → List D → Ed → Option Ed
  | [], [], e => some e
  | p :: ps, x :: xs, e => (setD p x e).bind (setDs ps xs)
  | _, _, _ => none
end
mutual
theorem gD_go {K : PySem.W.Frag} {st : Sto} {H : Hp} {vs : List Nat} : ∀ (p : Pat) {P : Nat → Prop} {σ : L2.St} {e e' : Ed} {v : V} {x : D} {Q : L2.St → Hp → Prop}, REo K st H P σ e → DvD K st H v x → setD p x e = some e' → (∀ i ∈ slots p, i ∈ vs) →
    (∀ σ2, REo K st H (fun j => P j ∧ j ∉ slots p) σ2 e' → wipe σ2 vs = wipe σ vs → Q σ2 H) → gP K p v σ H Q
  | .nm i, P, σ, e, e', v, x, Q, r, h, q, hs, k => by
    unfold setD at q
    cases Option.some.inj q
    unfold gP
    exact k _ ((r.set h).imp fun j hj => ⟨hj.1, by simpa [slots] using hj.2⟩) (wipe_set (hs i (by simp [slots])))
  | .tup ps, P, σ, e, e', v, x, Q, r, h, q, hs, k => by
    cases h with
    | d h =>
      cases h with
      | tup h1 r1 =>
        unfold setD at q
        unfold gP
        refine ⟨_, _, rfl, h1, ?_, gDs_go ps r (Dvs.to r1) q (by simpa [slots] using hs) (by simpa [slots] using k)⟩
        rw [r1.length]
        simpa using setDs_len ps q
      | _ => cases q
    | tp h1 r1 =>
      unfold setD at q
      unfold gP
      refine ⟨_, _, rfl, h1, ?_, gDs_go ps r (DvEs.up r1) q (by simpa [slots] using hs) (by simpa [slots] using k)⟩
      rw [Paired.length r1]
      exact setDs_len ps q
    | _ => cases q
theorem setDs_len : ∀ (ps : List Pat) {xs : List D} {e e' : Ed}, setDs ps xs e = some e' → xs.length = ps.length
  | [], [], _, _, _ => rfl
  | [], _ :: _, _, _, q => by cases q
  | p :: ps, [], _, _, q => by cases q
  | p :: ps, x :: xs, e, e', q => by
    unfold setDs at q
    obtain ⟨e1, h1, h2⟩ := Option.bind_eq_some_iff.mp q
    rw [List.length_cons, List.length_cons, setDs_len ps h2]
theorem gDs_go {K : PySem.W.Frag} {st : Sto} {H : Hp} {vs : List Nat} : ∀ (ps : List Pat) {P : Nat → Prop} {σ : L2.St} {e e' : Ed} {ws : List V} {xs : List D} {Q : L2.St → Hp → Prop}, REo K st H P σ e → DvsD K st H ws xs → setDs ps xs e = some e' → (∀ i ∈ slotsAll ps, i ∈ vs) →
    (∀ σ2, REo K st H (fun j => P j ∧ j ∉ slotsAll ps) σ2 e' → wipe σ2 vs = wipe σ vs → Q σ2 H) → gPs K ps ws σ H Q
  | [], P, σ, e, e', ws, xs, Q, r, h, q, hs, k => by
    cases h with
    | nil =>
      unfold setDs at q
      cases Option.some.inj q
      exact ⟨rfl, k σ (r.imp fun j hj => ⟨hj, by simp [slotsAll]⟩) rfl⟩
    | cons _ _ => cases q
  | p :: ps, P, σ, e, e', ws, xs, Q, r, h, q, hs, k => by
    cases h with
    | nil => cases q
    | cons h t =>
      unfold setDs at q
      obtain ⟨e1, h1, h2⟩ := Option.bind_eq_some_iff.mp q
      unfold gPs
      refine ⟨_, _, rfl, gD_go p r h h1 (fun i hi => hs i (by simp [slotsAll, hi])) fun σ2 r2 w2 => ?_⟩
      exact gDs_go ps r2 t h2 (fun i hi => hs i (by simp [slotsAll, hi])) fun σ3 r3 w3 => k σ3 (r3.imp fun j ⟨⟨h1, h2⟩, h3⟩ => ⟨h1, by simp [slotsAll, h2, h3]⟩) (w3.trans w2)
end
def dLcX (M : List D → Sto → Kd → Prop) (ti : TId) (p : Pat) (tt : TTd) (te : TEd) : TEd := fun e st Q => ti e st fun it st1 => ∃ W : Nat → List D → Sto → Prop, W 0 [] st1 ∧ ∀ j acc st2, W j acc st2 → it.at st2 ∧ (it.xs.length ≤ j → M acc st2 Q) ∧
  ∀ d, it.xs[j]? = some d → ∃ e', setD p d e = some e' ∧ tt e' st2 fun b st3 => if b = true then te e' st3 fun y st4 => acc.length < sizeLine ∧ W (j + 1) (acc ++ [y]) st4 else W (j + 1) acc st3
theorem pd_lcX {X : Cx} {M : List D → Sto → Kd → Prop} (hM : ∀ ds st Q, M ds st Q → mkL ds st Q) {elt iter tg : Expr} {ifs : List Expr} {scope : Scope} {pos : Pos} {ti : TId} {tt : TTd} {te : TEd} (p : Pat) (own : List (Str × Nat)) (ho : ∀ i, i ∈ own.map (·.2) ↔ i ∈ slots p) (hc : X.calm = true) (hN : X.N.Nodup) (hi : PDI X tg iter ti) (ok : BlkOk X.N X.env.scope scope own)
    (hg : ∀ (s : Shared) (H : Hp) (C : Addr) (cl : List (Str × Addr)) (fp : List Addr), PG (X.blk s H scope (compEnvC scope cl C X.env) fp) tg (gP X.K p))
    (ht : ∀ (s : Shared) (H : Hp) (C : Addr) (cl : List (Str × Addr)) (fp : List Addr), PDTs (X.blk s H scope (compEnvC scope cl C X.env) fp) ifs tt)
    (he : ∀ (s : Shared) (H : Hp) (C : Addr) (cl : List (Str × Addr)) (fp : List Addr), PD (X.blk s H scope (compEnvC scope cl C X.env) fp) elt te) (hs : ∀ x, foldedSetIterable iter X.env x = pure x := by intro _; rfl) :
    PD X (.ListComp elt [⟨tg, iter, ifs, 0⟩] scope pos) (dLcX M ti p tt te) :=
  PE.imp (pe_lc (own := own) (wi := upI X.K ti) (g := gP X.K p) (tt := upT X.K tt) (te := up X.K te) hc hN hi ok hg ht he hs) fun σ H Q ⟨e, st, hid, Qd, re, S, h, k⟩ => by
    refine ⟨e, st, hid, _, re, S, h, fun J H1 it st1 F1 S1 ok1 at1 ⟨W, w0, turn⟩ p' hp => ?_⟩
    have n1 := jn_free (S1.sr.free0 hp)
    refine ⟨fun j m H2 => m = it.xs.length - j ∧ ∃ acc st2, W j acc st2 ∧ Sx X.K (put st2 p' acc) hid H2 ∧ st2 p' = none ∧ Fr (jn (put st1 p' []) hid) (upd H1 p' (.lst [])) (jn (put st2 p' acc) hid) H2, ⟨it.xs.length, by simp, [], st1, w0, S1.own hp .nil, n1.1, Fr.refl _ _⟩, ?_⟩
    rintro j m H2 ⟨rfl, acc, st2, w2, S2, n2, F2⟩
    obtain ⟨at2, done, go⟩ := turn j acc st2 w2
    have Sh := S2.hide n2
    have eqF : jn st2 (put hid p' acc) = jn (put st2 p' acc) hid := jn_swap n2
    have F12 : Fr (jn st1 hid) H1 (jn (put st2 p' acc) hid) H2 := Fr.trans (fx_own hp) F2
    have F02 : Fr (jn st hid) H (jn (put st2 p' acc) hid) H2 := Fr.trans F1 F12
    have atF : it.at (jn (put st2 p' acc) hid) := fun a ds z => by
      have e1 := at2 a ds z
      have ne : a ≠ p' := fun z' => by
        rw [z', n2] at e1
        cases e1
      exact jn_some (by rw [put_ne ne]; exact e1)
    have It := ok1 j _ H2 F12 S2.sr atF
    by_cases hj : it.xs.length ≤ j
    · refine .inl ⟨It.2 hj, ?_⟩
      obtain ⟨vs, hv, rv⟩ := S2.at_ put_same (F2.ls _ [] upd_same)
      rcases hM _ _ _ (done hj) with ⟨xs, ep, q⟩ | q
      · have ea := pures_eq ep
        subst ea
        obtain ⟨Sc, Fc, fc⟩ := S2.frz put_same
        have ec : cut (put st2 p' (xs.map D.d)) p' = st2 := by
          funext b
          by_cases eb : b = p'
          · rw [eb, cut_same, n2]
          · rw [cut_ne eb, put_ne eb]
        rw [ec] at Sc Fc fc
        exact k _ H2 _ st2 (Fr.trans F02 Fc) Sc (.d (.lst hv fc ((Dvs.of rv).mono Fc S2.sr))) q
      · exact k _ H2 _ _ F02 S2 (.own _ ⟨_, hv⟩) (q _ n2)
    · have hlt : j < it.xs.length := Nat.lt_of_not_le hj
      have ed : it.xs[j]? = some it.xs[j] := List.getElem?_eq_getElem hlt
      obtain ⟨g1, g2⟩ := It.1 _ ed
      refine .inr ⟨g1, fun H' => ∃ acc' st', W (j + 1) acc' st' ∧ Sx X.K (put st' p' acc') hid H' ∧ st' p' = none ∧ Fr (jn (put st1 p' []) hid) (upd H1 p' (.lst [])) (jn (put st' p' acc') hid) H', fun H' ⟨acc', st', h1, h2, h3, h4⟩ => ⟨it.xs.length - (j + 1), by omega, rfl, acc', st', h1, h2, h3, h4⟩, fun x H3 hy => ?_⟩
      obtain ⟨F23, S3r, rx⟩ := g2 x H3 hy
      obtain ⟨e', he', go2⟩ := go _ ed
      have S3 : Sx X.K (put st2 p' acc) hid H3 := S2.go F23 S3r
      have S3h := S3.hide n2
      have F03 := Fr.trans F02 F23
      have reo : REo X.K (jn (put st2 p' acc) hid) H3 (· ∈ own.map (·.2)) (wipe σ (own.map (·.2))) e := (re.mono F03 S.sr).off _
      refine gD_go p reo rx he' (fun i hi => (ho i).mpr hi) fun σ2 r2 w2 => ?_
      have reX : RE X.K (jn st2 (put hid p' acc)) H3 σ2 e' := by
        rw [eqF]
        exact r2.on fun i hi => hi.2 ((ho i).mp hi.1)
      have ww : wipe (wipe σ (own.map (·.2))) (own.map (·.2)) = wipe σ (own.map (·.2)) := by
        refine List.ext_getElem? fun i => ?_
        by_cases hi : i ∈ own.map (·.2)
        · by_cases hl : i < σ.length
          · rw [wipe_in hi (by rw [wipe_length]; exact hl), wipe_in hi hl]
          · rw [List.getElem?_eq_none (by rw [wipe_length, wipe_length]; omega), List.getElem?_eq_none (by rw [wipe_length]; omega)]
        · rw [wipe_at hi]
      refine ⟨w2.trans ww, ?_⟩
      refine ⟨_, st2, put hid p' acc, _, reX, S3h, go2, fun b H4 st4 F4 S4 q4 => ?_⟩
      have hn : hid p' = none := n1.2
      have F3X : Fr (jn (put st1 p' []) hid) (upd H1 p' (.lst [])) (jn st2 (put hid p' acc)) H3 := by
        rw [eqF]
        exact Fr.trans F2 F23
      cases b with
      | false =>
        rw [if_neg Bool.false_ne_true] at q4
        refine iteF ?_
        obtain ⟨S4', n4⟩ := S4.shown hn
        refine ⟨acc, st4, q4, S4', n4, ?_⟩
        rw [← jn_swap n4]
        exact Fr.trans F3X F4
      | true =>
        rw [if_pos rfl] at q4
        refine iteT ?_
        refine ⟨_, st4, put hid p' acc, _, reX.mono F4 S3h.sr, S4, q4, fun v H5 d st5 F5 S5 r5 ⟨hz, w5⟩ => ?_⟩
        obtain ⟨S5', n5⟩ := S5.shown hn
        obtain ⟨vs, hv, rv⟩ := S5'.at_ put_same ((Fr.trans F3X (Fr.trans F4 F5)).ls _ [] upd_same)
        rw [jn_swap n5] at r5
        refine ⟨vs, hv, by rw [Paired.length rv]; exact hz, acc ++ [d], st5, w5, ?_, n5, ?_⟩
        · have := S5'.store (es := acc ++ [d]) put_same (DvsD.snoc rv r5)
          have ee : put (put st5 p' acc) p' (acc ++ [d]) = put st5 p' (acc ++ [d]) := by
            funext b
            by_cases eb : b = p'
            · rw [eb, put_same, put_same]
            · rw [put_ne eb, put_ne eb, put_ne eb]
          rw [ee] at this
          exact this
        · have Fa : Fr (jn (put st1 p' []) hid) (upd H1 p' (.lst [])) (jn (put st5 p' acc) hid) H5 := by
            rw [← jn_swap n5]
            exact Fr.trans F3X (Fr.trans F4 F5)
          exact Fr.late Fa (by rw [jn_some put_same]; exact fun z => nomatch z)
end DL
namespace DL
open PySem PySem.Spec PyProof.Rows L2
variable [Tabs]
theorem SmB.seer {h base : Heap} (x : h.NoSeer) (kp : PlainK h base) : SmB base := by
  obtain ⟨mm, ⟨o, es, ep, e, d, _⟩, _⟩ := x.mods
  exact ⟨o, es, ep, kp _ _ e (fun us n z => by rw [d] at z; cases z) (fun z => by rw [d] at z; cases z), d⟩
/-- walkG, where nothing but math is brought in: sys.modules stands there -/
theorem walkGS {l : PySem.W.OpenLaw} {n k : Nat} {q : Program} {loose : List Str} {XP : (Str → Option Value) → Heap → Prop} {YP : World → Heap → Prop} {d : DefRec} {K : Params → PySem.W.Frag} {sp : SpD} {x : Str} {cs : List (Addr × Addr)} (hcs : (Tabs.tp : List Addr) = cs.map (·.2))
    (hi : importsNone q = true) (hn : l.most = some n) (hn2 : n ≤ sizeLine) (hdf : d.params.defaults = []) (hr : Room k callerA) (hY : ∀ (w : World) (h : Heap), YP w h → (K w.params).In h)
    (hT : ∀ (w : World) (h : Heap), YP w h → (K w.params).In h → (∀ p ∈ cs, h.get? p.2 = some tab0) ∧ (∀ p ∈ cs, (K w.params).lookup p.2 = none) ∧ ∀ p ∈ cs, PySem.W.CodeHd h p.1 p.2)
    (F : ∀ (w : World) (mg : Str → Option Value) (fa : Addr) (h : Heap), YP w h → (K w.params).In h → h.Ns mainGlobals mg → mg d.name = some (.ref fa) → h.NoSeer →
      ∃ fd : FuncData, (∀ (s : Shared) (u : Value), BindsTo s fd ⟨[u], []⟩ [(x, u)]) ∧ ∀ base : Heap, (K w.params).In base → base.Ns mainGlobals mg → (∀ p ∈ cs, GxR.TabB base mg p.1 p.2) → PlainK h base → FnD l.prog w (K w.params) mg base k fa fd [x] sp)
    (hsp : ∀ ns : List Int, ns.length ≤ n → sp [.scr ns] (fun _ => none) fun d _ => d = .d (.bool true)) :
    PySem.W.WalkO q loose XP YP l.row.toRowW d [] (fun f vs => PySem.call f vs) := by
  refine Att.attach_call hn hdf fun w s₀ s₁ mg mb fa o pm cd doc a vs ns G Y ho hd hcd hmg hobj hints hlen hg => ?_
  have KX := hY w _ Y
  obtain ⟨t1, t2, t3⟩ := hT w _ Y KX
  obtain ⟨fd, hb, hF⟩ := F w mg fa _ Y KX G.T.g hmg (G.T.seer hi)
  exact lawG hcs KX G.T.g G.T.b G.T.builtins G.T.nolimit hg t1 t2 t3 G.T.bmain hobj hints (Nat.le_trans hlen hn2) hr hF hb (hsp ns hlen)
end DL
namespace DL
open PySem PySem.Spec PyProof.Rows L2
/-- an exception class of one's own over ValueError, by a look at the written part -/
def oxB (K : PySem.W.Frag) (C : Addr) : Bool := match K.lookup C with
  | some ⟨.type t, _, .cls ⟨_, _, .ref c :: bm, _, _, true, _, _, _, _, false⟩, sl⟩ => match sl.toList with
    | [_, _, _, _, some (.builtin n), _] => t == "type" && (c == C && (n == "ValueError.__new__" && PySem.HandSPX.refsVE bm))
    | _ => false
  | _ => false
theorem oxB_ok {K : PySem.W.Frag} {C : Addr} (h : oxB K C = true) : ∃ nm q N bs bm sn sub ab col dd k0 k1 k2 k3 k5, K.lookup C = some (excClassObj nm q C N bs bm true sn sub ab col dd k0 k1 k2 k3 k5 "ValueError.__new__") ∧ PySem.HandSPX.refsVE bm = true := by
  unfold oxB at h
  split at h
  · rename_i t dd nm bs c bm N qn sn sub ab col sl e
    split at h
    · rename_i k0 k1 k2 k3 n k5 hs
      simp only [Bool.and_eq_true, beq_iff_eq] at h
      obtain ⟨rfl, rfl, rfl, hb⟩ := h
      have hsl : sl = #[k0, k1, k2, k3, some (.builtin "ValueError.__new__"), k5] := by
        obtain ⟨l⟩ := sl
        simp only at hs
        rw [hs]
      subst hsl
      exact ⟨nm, qn, N, bs, bm, sn, sub, ab, col, dd, k0, k1, k2, k3, k5, e, hb⟩
    · cases h
  · cases h
def xcB (K : PySem.W.Frag) (C : Addr) : Bool := oxB K C && (decide (PySem.W.findIn K (.ref C) "__setattr__" = some (some (.builtin "object.__setattr__"))) && (decide (PySem.W.subIn K (.ref C) (.type "BaseException") = some true) &&
  (decide (PySem.W.typeIn K (.ref C) = some (.type "type")) && (PySem.W.keepIn K (.ref C) && ((PySem.W.clsIn K C).isSome && (decide (PySem.W.findIn K (.ref C) "__getattribute__" = some (some (.builtin "BaseException.__getattribute__"))) &&
  (decide (PySem.W.findIn K (.ref C) "__getattr__" = some none) && (PySem.W.hasDictIn K C && (decide (PySem.W.findIn K (.ref C) "__class__" = some (some (.builtin "object.__class__"))) &&
  (decide (PySem.W.specialIn K (.builtin "object.__class__") "__get__" = some (some (.builtin "getset_descriptor.__get__"))) && (decide (PySem.W.takesIn K (.builtin "object.__class__") = some true) && decide (PySem.W.mroIn K C (.type "object") = some true))))))))))))
theorem xcB_ok {K : PySem.W.Frag} {C : Addr} (h : xcB K C = true) : XC K C := by
  unfold xcB at h
  simp only [Bool.and_eq_true, decide_eq_true_eq] at h
  obtain ⟨h1, h2, h3, h4, h5, h6, h7, h8, h9, h10, h11, h12, h13⟩ := h
  exact ⟨⟨oxB_ok h1, h2, h3, h4, h5⟩, h6, h7, h8, h9, h10, h11, h12, h13⟩
/-- isinstance by a table -/
theorem isx_tab {K : PySem.W.Frag} {l : List (Addr × Bool)} {u : Value} (hx : l.all (fun p => xcB K p.1) = true) (hk : l.all (fun p => PySem.W.kitOne K (.ref p.1) u == some p.2) = true) : ∀ C b, l.lookup C = some b → XC K C ∧ PySem.W.kitOne K (.ref C) u = some b := fun C b e => by
  have m : (C, b) ∈ l := by
    clear hx hk
    induction l with
    | nil => cases e
    | cons p r ih =>
      obtain ⟨c, v⟩ := p
      rw [List.lookup_cons] at e
      by_cases q : (C == c) = true
      · rw [q] at e
        have := beq_iff_eq.mp q
        cases e
        rw [this]
        exact List.mem_cons_self
      · rw [Bool.eq_false_iff.mpr q] at e
        exact List.mem_cons_of_mem _ (ih e)
  exact ⟨xcB_ok (List.all_eq_true.mp hx _ m), beq_iff_eq.mp (List.all_eq_true.mp hk _ m)⟩
end DL
namespace DL
open PySem PySem.Spec PyProof.Rows L2
variable [Tabs]
/-- where such a class's __init__ stands -/
structure HasI (K : PySem.W.Frag) (C : Addr) (qual : Str) (st : Stmt) (f : Str) : Prop where
  xc : XC K C
  ex : ∃ fI fd, PySem.W.findIn K (.ref C) "__init__" = some (some (.ref fI)) ∧ PySem.W.typeIn K (.ref fI) = some (.type "function") ∧ Fun K "__init__" qual st fI fd
  no : PySem.W.findIn K (.ref C) f = some none
theorem canx {P : Program} {w : World} {K : PySem.W.Frag} {mg : Str → Option Value} {base : Heap} {x qual f : Str} {C : Addr} {st : Stmt} (H : HasI K C qual st f) (hm : mg x = some (.ref C)) (S : FnScope [("self" : Str), f] [("self" : Str), f] (defScope st))
    (b1 : ∀ (kV doc pm : Value) (an : Option Addr) (cdv ct : Value) (a u : Value), bindArgs (PySem.W.fnOf "__init__" qual (defArgs st) (defBody st) (defScope st) .none kV doc pm an cdv ct) ⟨[a, u], []⟩ = pure ([("self" : Str), f].zip [a, u]))
    (b2 : ∀ (kV doc pm : Value) (an : Option Addr) (cdv ct : Value) (a u : Value), bindArgs (PySem.W.fnOf "__init__" qual (defArgs st) (defBody st) (defScope st) .none kV doc pm an cdv ct) ⟨[a], [(f, u)]⟩ = pure ([("self" : Str), f].zip [a, u]))
    (hb : ∀ (f' : Addr) (cd : Value) (A : Around) (outer : List Env) (s : Shared) (Hp : Hp) (E : XK), PDSs (cxD P w K mg base [("self" : Str), f] qual (defScope st) f' cd A outer s Hp E) (defBody st) (dOst C f (dVar 0) (dVar 1))) : CanX P w K mg base 1 x C f := by
  obtain ⟨fI, fd, h1, h2, F⟩ := H.ex
  refine ⟨H.xc, hm, H.xc.o.kC, fI, fd, h1, h2, ?_, ?_, ?_⟩
  · refine fnD_ok F S (fun ds s Q h => ?_) (fun cd A outer s Hp E hG hr => hb fI cd A outer s Hp E) fun ds s Q h => ?_
    · unfold sp_exi at h
      split at h
      · rfl
      · exact h.elim
    · unfold sp_exi at h
      split at h
      · rename_i a y
        exact ⟨y, rfl, .obj a, rfl, h.1, h.2⟩
      · exact h.elim
  · obtain ⟨oc, od, kV, doc, pm, an, cd, ct, osl, rfl, lk, hcd⟩ := F.ex
    exact fun s a u _ => .of_eq (b1 kV doc pm an cd ct a u)
  · obtain ⟨oc, od, kV, doc, pm, an, cd, ct, osl, rfl, lk, hcd⟩ := F.ex
    exact fun s a u _ => .of_eq (b2 kV doc pm an cd ct a u)
end DL
namespace K01
open PySem PySem.Spec PyProof.Rows L2 DL LB
def topS (i : Nat) : Stmt := PySem.Challenge.pw_bentalike_k01_errors_each_of_its_own.main.body.getD i (.Pass ⟨0, 0, 0, 0⟩)
abbrev s_spring : Stmt := topS 29
abbrev N_spring : List Str := ["_law_script", "_law_turn", "_law_mixed", "_law_cell", "_law_own"]
theorem sc_spring : FnScope N_spring ["_law_script", "_law_turn"] (defScope s_spring) := ⟨rfl, rfl, rfl, by decide +kernel, rfl, by decide +kernel, by decide +kernel⟩
abbrev s_draw : Stmt := topS 30
abbrev N_draw : List Str := ["_law_spring_here", "_law_many", "_law_digit", "_law_seed"]
theorem sc_draw : FnScope N_draw ["_law_spring_here", "_law_many"] (defScope s_draw) := ⟨rfl, rfl, rfl, by decide +kernel, rfl, by decide +kernel, by decide +kernel⟩
abbrev s_one_of : Stmt := topS 31
abbrev N_one_of : List Str := ["_law_spring_here", "_law_some"]
theorem sc_one_of : FnScope N_one_of ["_law_spring_here", "_law_some"] (defScope s_one_of) := ⟨rfl, rfl, rfl, by decide +kernel, rfl, by decide +kernel, by decide +kernel⟩
abbrev s_odd : Stmt := topS 32
abbrev N_odd : List Str := ["_law_spring_here", "_law_nil", "_law_one", "_law_two", "_law_some"]
theorem sc_odd : FnScope N_odd ["_law_spring_here"] (defScope s_odd) := ⟨rfl, rfl, rfl, by decide +kernel, rfl, by decide +kernel, by decide +kernel⟩
abbrev s_bent : Stmt := topS 33
abbrev N_bent : List Str := ["_law_spring_here", "_law_thing", "_law_at", "_law_branch"]
theorem sc_bent : FnScope N_bent ["_law_spring_here", "_law_thing"] (defScope s_bent) := ⟨rfl, rfl, rfl, by decide +kernel, rfl, by decide +kernel, by decide +kernel⟩
abbrev s_spoilt : Stmt := topS 34
abbrev N_spoilt : List Str := ["_law_spring_here", "_law_thing", "_law_branch"]
theorem sc_spoilt : FnScope N_spoilt ["_law_spring_here", "_law_thing"] (defScope s_spoilt) := ⟨rfl, rfl, rfl, by decide +kernel, rfl, by decide +kernel, by decide +kernel⟩
abbrev s_by_position : Stmt := topS 35
abbrev N_by_position : List Str := ["_law_thing", "_law_found"]
theorem sc_by_position : FnScope N_by_position ["_law_thing"] (defScope s_by_position) := ⟨rfl, rfl, rfl, by decide +kernel, rfl, by decide +kernel, by decide +kernel⟩
abbrev s_by_name : Stmt := topS 36
abbrev N_by_name : List Str := ["_law_thing", "_law_found"]
theorem sc_by_name : FnScope N_by_name ["_law_thing"] (defScope s_by_name) := ⟨rfl, rfl, rfl, by decide +kernel, rfl, by decide +kernel, by decide +kernel⟩
abbrev s_under : Stmt := topS 37
abbrev N_under : List Str := ["_law_error", "_law_found"]
theorem sc_under : FnScope N_under ["_law_error"] (defScope s_under) := ⟨rfl, rfl, rfl, by decide +kernel, rfl, by decide +kernel, by decide +kernel⟩
abbrev s_is_made : Stmt := topS 38
abbrev N_is_made : List Str := ["_law_at", "_law_thing", "_law_error", "_law_each"]
theorem sc_is_made : FnScope N_is_made ["_law_at", "_law_thing", "_law_error"] (defScope s_is_made) := ⟨rfl, rfl, rfl, by decide +kernel, rfl, by decide +kernel, by decide +kernel⟩
abbrev s_right : Stmt := topS 39
abbrev N_right : List Str := ["_law_spring_here", "_law_first", "_law_second", "_law_by_position_here", "_law_by_name_here", "_law_at", "_law_error"]
theorem sc_right : FnScope N_right ["_law_spring_here"] (defScope s_right) := ⟨rfl, rfl, rfl, by decide +kernel, rfl, by decide +kernel, by decide +kernel⟩
abbrev s_law : Stmt := topS 40
abbrev N_law : List Str := ["_law_script", "_law_turn"]
theorem sc_law : FnScope N_law ["_law_script"] (defScope s_law) := ⟨rfl, rfl, rfl, by decide +kernel, rfl, by decide +kernel, by decide +kernel⟩
def clsL : List Addr := [44, 63, 82, 101, 120, 139, 158, 177, 196, 215, 234, 253, 272, 291, 310, 329, 348, 367, 386, 405, 424, 443, 462, 481, 493, 505, 24]
def rowL (i j : Nat) : Bool := decide (j = i) || (decide (25 < j) && decide (j < 29))
def tabT (j : Nat) : List (Addr × Bool) := clsL.zipIdx.map fun p => (p.1, rowL p.2 j)
def tabL (j : Nat) (C : Addr) : Option Bool := (tabT j).lookup C
def fldL : List (Addr × Str) := [(44, "given"), (63, "given"), (82, "given"), (101, "given"), (120, "given"), (139, "given"), (158, "given"), (177, "given"), (196, "given"), (215, "given"), (234, "given"), (253, "given"), (272, "given"), (291, "given"), (310, "given"), (329, "given"), (348, "given"), (367, "given"), (386, "given"), (405, "given"), (424, "index"), (443, "index"), (462, "index"), (481, "spot")]
def okL (f : Str) (C : Addr) : Bool := fldL.any fun p => p.1 == C && p.2 == f
def bodyC (s : Stmt) : Stmt := match s with
  | .ClassDef _ _ _ b _ _ _ _ _ _ _ => b.getD 0 (.Pass ⟨0, 0, 0, 0⟩)
  | _ => .Pass ⟨0, 0, 0, 0⟩
abbrev i_InvalidPoint : Stmt := bodyC (topS 2)
abbrev i_InvalidSegment : Stmt := bodyC (topS 3)
abbrev i_InvalidFigure : Stmt := bodyC (topS 4)
abbrev i_InvalidScene : Stmt := bodyC (topS 5)
abbrev i_InvalidCell : Stmt := bodyC (topS 6)
abbrev i_InvalidName : Stmt := bodyC (topS 7)
abbrev i_InvalidIndex : Stmt := bodyC (topS 8)
abbrev i_InvalidMap : Stmt := bodyC (topS 9)
abbrev i_InvalidDart : Stmt := bodyC (topS 10)
abbrev i_InvalidSpecial : Stmt := bodyC (topS 11)
abbrev i_InvalidFace : Stmt := bodyC (topS 12)
abbrev i_InvalidPart : Stmt := bodyC (topS 13)
abbrev i_InvalidStep : Stmt := bodyC (topS 14)
abbrev i_InvalidSide : Stmt := bodyC (topS 15)
abbrev i_InvalidCode : Stmt := bodyC (topS 16)
abbrev i_InvalidPick : Stmt := bodyC (topS 17)
abbrev i_InvalidDeed : Stmt := bodyC (topS 18)
abbrev i_InvalidBook : Stmt := bodyC (topS 19)
abbrev i_InvalidWindow : Stmt := bodyC (topS 20)
abbrev i_TooMany : Stmt := bodyC (topS 21)
abbrev i_InvalidSegments : Stmt := bodyC (topS 22)
abbrev i_InvalidPoints : Stmt := bodyC (topS 23)
abbrev i_InvalidLines : Stmt := bodyC (topS 24)
abbrev i_BadText : Stmt := bodyC (topS 25)
variable [Tabs]
structure Tx (K : PySem.W.Frag) (mg : Str → Option Value) (base : Heap) : Prop where
  sb : SmB base
  n_ValueError : mg "ValueError" = none
  n_Exception : mg "Exception" = none
  n_LookupError : mg "LookupError" = none
  n_TypeError : mg "TypeError" = none
  n_ArithmeticError : mg "ArithmeticError" = none
  n_RuntimeError : mg "RuntimeError" = none
  n_AttributeError : mg "AttributeError" = none
  m_InvalidPoint : mg "InvalidPoint" = some (.ref 44)
  m_InvalidSegment : mg "InvalidSegment" = some (.ref 63)
  m_InvalidFigure : mg "InvalidFigure" = some (.ref 82)
  m_InvalidScene : mg "InvalidScene" = some (.ref 101)
  m_InvalidCell : mg "InvalidCell" = some (.ref 120)
  m_InvalidName : mg "InvalidName" = some (.ref 139)
  m_InvalidIndex : mg "InvalidIndex" = some (.ref 158)
  m_InvalidMap : mg "InvalidMap" = some (.ref 177)
  m_InvalidDart : mg "InvalidDart" = some (.ref 196)
  m_InvalidSpecial : mg "InvalidSpecial" = some (.ref 215)
  m_InvalidFace : mg "InvalidFace" = some (.ref 234)
  m_InvalidPart : mg "InvalidPart" = some (.ref 253)
  m_InvalidStep : mg "InvalidStep" = some (.ref 272)
  m_InvalidSide : mg "InvalidSide" = some (.ref 291)
  m_InvalidCode : mg "InvalidCode" = some (.ref 310)
  m_InvalidPick : mg "InvalidPick" = some (.ref 329)
  m_InvalidDeed : mg "InvalidDeed" = some (.ref 348)
  m_InvalidBook : mg "InvalidBook" = some (.ref 367)
  m_InvalidWindow : mg "InvalidWindow" = some (.ref 386)
  m_TooMany : mg "TooMany" = some (.ref 405)
  m_InvalidSegments : mg "InvalidSegments" = some (.ref 424)
  m_InvalidPoints : mg "InvalidPoints" = some (.ref 443)
  m_InvalidLines : mg "InvalidLines" = some (.ref 462)
  m_BadText : mg "BadText" = some (.ref 481)
  m_NothingToUndo : mg "NothingToUndo" = some (.ref 493)
  m_NothingToRedo : mg "NothingToRedo" = some (.ref 505)
  m_BendError : mg "BendError" = some (.ref 24)
  i_InvalidPoint : HasI K 44 "InvalidPoint.__init__" i_InvalidPoint "given"
  i_InvalidSegment : HasI K 63 "InvalidSegment.__init__" i_InvalidSegment "given"
  i_InvalidFigure : HasI K 82 "InvalidFigure.__init__" i_InvalidFigure "given"
  i_InvalidScene : HasI K 101 "InvalidScene.__init__" i_InvalidScene "given"
  i_InvalidCell : HasI K 120 "InvalidCell.__init__" i_InvalidCell "given"
  i_InvalidName : HasI K 139 "InvalidName.__init__" i_InvalidName "given"
  i_InvalidIndex : HasI K 158 "InvalidIndex.__init__" i_InvalidIndex "given"
  i_InvalidMap : HasI K 177 "InvalidMap.__init__" i_InvalidMap "given"
  i_InvalidDart : HasI K 196 "InvalidDart.__init__" i_InvalidDart "given"
  i_InvalidSpecial : HasI K 215 "InvalidSpecial.__init__" i_InvalidSpecial "given"
  i_InvalidFace : HasI K 234 "InvalidFace.__init__" i_InvalidFace "given"
  i_InvalidPart : HasI K 253 "InvalidPart.__init__" i_InvalidPart "given"
  i_InvalidStep : HasI K 272 "InvalidStep.__init__" i_InvalidStep "given"
  i_InvalidSide : HasI K 291 "InvalidSide.__init__" i_InvalidSide "given"
  i_InvalidCode : HasI K 310 "InvalidCode.__init__" i_InvalidCode "given"
  i_InvalidPick : HasI K 329 "InvalidPick.__init__" i_InvalidPick "given"
  i_InvalidDeed : HasI K 348 "InvalidDeed.__init__" i_InvalidDeed "given"
  i_InvalidBook : HasI K 367 "InvalidBook.__init__" i_InvalidBook "given"
  i_InvalidWindow : HasI K 386 "InvalidWindow.__init__" i_InvalidWindow "given"
  i_TooMany : HasI K 405 "TooMany.__init__" i_TooMany "given"
  i_InvalidSegments : HasI K 424 "InvalidSegments.__init__" i_InvalidSegments "index"
  i_InvalidPoints : HasI K 443 "InvalidPoints.__init__" i_InvalidPoints "index"
  i_InvalidLines : HasI K 462 "InvalidLines.__init__" i_InvalidLines "index"
  i_BadText : HasI K 481 "BadText.__init__" i_BadText "spot"
  e_NothingToUndo : PySem.W.excIn K 493 PySem.HandSPX.veTail "ValueError.__new__" = true
  k_NothingToUndo : PySem.W.keepIn K (.ref 493) = true
  e_NothingToRedo : PySem.W.excIn K 505 PySem.HandSPX.veTail "ValueError.__new__" = true
  k_NothingToRedo : PySem.W.keepIn K (.ref 505) = true
  e_BendError : PySem.W.excIn K 24 PySem.HandSPX.veTail "ValueError.__new__" = true
  k_BendError : PySem.W.keepIn K (.ref 24) = true
  t_InvalidPoint : ∀ C b, tabL 0 C = some b → XC K C ∧ PySem.W.kitOne K (.ref C) (.ref 44) = some b
  t_InvalidSegment : ∀ C b, tabL 1 C = some b → XC K C ∧ PySem.W.kitOne K (.ref C) (.ref 63) = some b
  t_InvalidFigure : ∀ C b, tabL 2 C = some b → XC K C ∧ PySem.W.kitOne K (.ref C) (.ref 82) = some b
  t_InvalidScene : ∀ C b, tabL 3 C = some b → XC K C ∧ PySem.W.kitOne K (.ref C) (.ref 101) = some b
  t_InvalidCell : ∀ C b, tabL 4 C = some b → XC K C ∧ PySem.W.kitOne K (.ref C) (.ref 120) = some b
  t_InvalidName : ∀ C b, tabL 5 C = some b → XC K C ∧ PySem.W.kitOne K (.ref C) (.ref 139) = some b
  t_InvalidIndex : ∀ C b, tabL 6 C = some b → XC K C ∧ PySem.W.kitOne K (.ref C) (.ref 158) = some b
  t_InvalidMap : ∀ C b, tabL 7 C = some b → XC K C ∧ PySem.W.kitOne K (.ref C) (.ref 177) = some b
  t_InvalidDart : ∀ C b, tabL 8 C = some b → XC K C ∧ PySem.W.kitOne K (.ref C) (.ref 196) = some b
  t_InvalidSpecial : ∀ C b, tabL 9 C = some b → XC K C ∧ PySem.W.kitOne K (.ref C) (.ref 215) = some b
  t_InvalidFace : ∀ C b, tabL 10 C = some b → XC K C ∧ PySem.W.kitOne K (.ref C) (.ref 234) = some b
  t_InvalidPart : ∀ C b, tabL 11 C = some b → XC K C ∧ PySem.W.kitOne K (.ref C) (.ref 253) = some b
  t_InvalidStep : ∀ C b, tabL 12 C = some b → XC K C ∧ PySem.W.kitOne K (.ref C) (.ref 272) = some b
  t_InvalidSide : ∀ C b, tabL 13 C = some b → XC K C ∧ PySem.W.kitOne K (.ref C) (.ref 291) = some b
  t_InvalidCode : ∀ C b, tabL 14 C = some b → XC K C ∧ PySem.W.kitOne K (.ref C) (.ref 310) = some b
  t_InvalidPick : ∀ C b, tabL 15 C = some b → XC K C ∧ PySem.W.kitOne K (.ref C) (.ref 329) = some b
  t_InvalidDeed : ∀ C b, tabL 16 C = some b → XC K C ∧ PySem.W.kitOne K (.ref C) (.ref 348) = some b
  t_InvalidBook : ∀ C b, tabL 17 C = some b → XC K C ∧ PySem.W.kitOne K (.ref C) (.ref 367) = some b
  t_InvalidWindow : ∀ C b, tabL 18 C = some b → XC K C ∧ PySem.W.kitOne K (.ref C) (.ref 386) = some b
  t_TooMany : ∀ C b, tabL 19 C = some b → XC K C ∧ PySem.W.kitOne K (.ref C) (.ref 405) = some b
  t_InvalidSegments : ∀ C b, tabL 20 C = some b → XC K C ∧ PySem.W.kitOne K (.ref C) (.ref 424) = some b
  t_InvalidPoints : ∀ C b, tabL 21 C = some b → XC K C ∧ PySem.W.kitOne K (.ref C) (.ref 443) = some b
  t_InvalidLines : ∀ C b, tabL 22 C = some b → XC K C ∧ PySem.W.kitOne K (.ref C) (.ref 462) = some b
  t_BadText : ∀ C b, tabL 23 C = some b → XC K C ∧ PySem.W.kitOne K (.ref C) (.ref 481) = some b
  t_NothingToUndo : ∀ C b, tabL 24 C = some b → XC K C ∧ PySem.W.kitOne K (.ref C) (.ref 493) = some b
  t_NothingToRedo : ∀ C b, tabL 25 C = some b → XC K C ∧ PySem.W.kitOne K (.ref C) (.ref 505) = some b
  t_BendError : ∀ C b, tabL 26 C = some b → XC K C ∧ PySem.W.kitOne K (.ref C) (.ref 24) = some b
  t_ValueError : ∀ C b, tabL 27 C = some b → XC K C ∧ PySem.W.kitOne K (.ref C) (.type "ValueError") = some b
  t_Exception : ∀ C b, tabL 28 C = some b → XC K C ∧ PySem.W.kitOne K (.ref C) (.type "Exception") = some b
  t_LookupError : ∀ C b, tabL 29 C = some b → XC K C ∧ PySem.W.kitOne K (.ref C) (.type "LookupError") = some b
  t_TypeError : ∀ C b, tabL 30 C = some b → XC K C ∧ PySem.W.kitOne K (.ref C) (.type "TypeError") = some b
  t_ArithmeticError : ∀ C b, tabL 31 C = some b → XC K C ∧ PySem.W.kitOne K (.ref C) (.type "ArithmeticError") = some b
  t_RuntimeError : ∀ C b, tabL 32 C = some b → XC K C ∧ PySem.W.kitOne K (.ref C) (.type "RuntimeError") = some b
  t_AttributeError : ∀ C b, tabL 33 C = some b → XC K C ∧ PySem.W.kitOne K (.ref C) (.type "AttributeError") = some b
  f_given : ∀ C, okL "given" C = true → XC K C ∧ PySem.W.findIn K (.ref C) "given" = some none
  f_index : ∀ C, okL "index" C = true → XC K C ∧ PySem.W.findIn K (.ref C) "index" = some none
  f_spot : ∀ C, okL "spot" C = true → XC K C ∧ PySem.W.findIn K (.ref C) "spot" = some none
  n_abs : mg "abs" = none
  n_all : mg "all" = none
  n_divmod : mg "divmod" = none
  n_enumerate : mg "enumerate" = none
  n_int : mg "int" = none
  n_isinstance : mg "isinstance" = none
  n_len : mg "len" = none
  n_list : mg "list" = none
  n_max : mg "max" = none
  n_min : mg "min" = none
  n_range : mg "range" = none
  n_repr : mg "repr" = none
  n_str : mg "str" = none
  n_tuple : mg "tuple" = none
  h_spring : Has K mg "_law_spring" s_spring
  h_draw : Has K mg "_law_draw" s_draw
  h_one_of : Has K mg "_law_one_of" s_one_of
  h_odd : Has K mg "_law_odd" s_odd
  h_bent : Has K mg "_law_bent" s_bent
  h_spoilt : Has K mg "_law_spoilt" s_spoilt
  h_by_position : Has K mg "_law_by_position" s_by_position
  h_by_name : Has K mg "_law_by_name" s_by_name
  h_under : Has K mg "_law_under" s_under
  h_is_made : Has K mg "_law_is_made" s_is_made
  h_right : Has K mg "_law_right" s_right
  h_law : Has K mg "law" s_law
end K01
namespace K01
open PySem PySem.Spec PyProof.Rows L2 DL LB
def sp_odd : SpD := fun ds st Q => match ds with
  | [.own p] => spS 1 (fun d => ∃ x, d = .d x ∧ R 84 60 6 x) p st Q
  | _ => False
/-- k: how deep at most -/
def sp_bentK (k : Nat) : SpD := fun ds st Q => ∃ (p : Addr) (x : PyData) (c : Nat), ds = [.own p, .d x] ∧ 84 ≤ c ∧ c ≤ 120 ∧ okD c x = true ∧ x.bulk ≤ 1000 ∧ x.depth ≤ k ∧ k ≤ 40 ∧
  spS (2 * k + 2) (fun d => ∃ y, d = .d y ∧ R (c + 2) (3 * x.bulk + 140) (x.depth + 6) y) p st Q
def sp_bent : SpD := sp_bentK 40
def sp_spoilt : SpD := fun ds st Q => ∃ (p : Addr) (x : PyData) (c : Nat), ds = [.own p, .d x] ∧ 84 ≤ c ∧ c ≤ 120 ∧ okD c x = true ∧ x.bulk ≤ 1000 ∧ x.depth ≤ 40 ∧
  spS 100 (fun d => ∃ y, d = .d y ∧ R (c + 2) (3 * x.bulk + 140) (x.depth + 6) y) p st Q
/-- what stands there still stands -/
def Ext (st st' : Sto) : Prop := ∀ a ds, st a = some ds → st' a = some ds
/-- the field of the i-th class -/
def fldI (i : Nat) : Option Str := if i < 20 then some "given" else if i < 23 then some "index" else if i < 24 then some "spot" else none
/-- an exception of the i-th class, made with x -/
def contI (i : Nat) (x : PyData) : List D := match fldI i with
  | some f => [.mk (.exc (clsL.getD i 0) [f]), .d x]
  | none => [.mk (.ex0 (clsL.getD i 0))]
/-- a list of the exceptions lo, lo + 1, .. -/
def Errs (st : Sto) (x : PyData) (lo : Nat) : List D → Prop
  | [] => True
  | d :: r => (∃ a, d = .obj a ∧ st a = some (contI lo x)) ∧ Errs st x (lo + 1) r
def sp_make : SpD := fun ds st Q => ∃ x : PyData, ds = [.d x] ∧ ∀ (p : Addr) (es : List D) (st' : Sto), Ext st st' → st' p = some es → es.length = 27 → Errs st' x 0 es → Q (.own p) st'
abbrev sp_by_position : SpD := sp_make
abbrev sp_by_name : SpD := sp_make
def sp_under : SpD := fun ds st Q => ∃ (a : Addr) (i : Nat) (x : PyData), ds = [.obj a] ∧ i < 27 ∧ st a = some (contI i x) ∧ Q (.d (.list ((List.range 34).map fun j => .bool (rowL i j)))) st
def sp_is_made : SpD := fun ds st Q => ∃ (a : Addr) (i : Nat) (x : PyData), ds = [.d (.int (i : Nat)), .d x, .obj a] ∧ i < 27 ∧ st a = some (contI i x) ∧ (∃ c W D, R c W D x ∧ c ≤ 1000 ∧ W ≤ 10000 ∧ D ≤ 64) ∧ Q (.d (.bool true)) st
def sp_right : SpD := fun ds st Q => ∃ (p : Addr) (n : Nat) (ys : List D), ds = [.own p] ∧ st p = some ys ∧ SprL ys n ∧ n + 1000 < 2 ^ 40 ∧ ∀ st', Q (.d (.bool true)) st'
def sp_law : SpD := fun ds st Q => match ds with
  | [.scr ns] => ns.length ≤ 63 ∧ ∀ st', Q (.d (.bool true)) st'
  | _ => False
end K01
namespace K01
open PySem PySem.Spec PyProof.Rows L2 DL LB
abbrev b_spring : TSd := LB.b_spring 410203
def b_odd_1 : TSd := (dAsg (dTup (dCons (dTup (dCons (dTup (dCons (dC (.int 0)) (dCons (dC (.int 1)) dNil))) (dCons (dTup (dCons (dC (.int 0)) (dCons (dC (.int 1)) dNil))) dNil))) (dCons (dTup (dCons (dTup (dCons (dC (.int 1)) (dCons (dC (.int 1)) dNil))) (dCons (dTup (dCons (dC (.int 0)) (dCons (dC (.int 1)) dNil))) dNil))) (dCons (dTup (dCons (dTup (dCons (dNeg (dC (.int 3))) (dCons (dC (.int 2)) dNil))) (dCons (dTup (dCons (dC (.int 5)) (dCons (dC (.int 7)) dNil))) dNil))) dNil)))) (hTup 3 (hCons (hName 1) (hCons (hName 2) (hCons (hName 3) hNil)))))
def b_odd_2 : TSd := (dAsg (dLstV (dCons (dC .none) (dCons (dC (.bool true)) (dCons (dC (.bool false)) (dCons (dC (.int 0)) (dCons (dC (.int 1)) (dCons (dNeg (dC (.int 1))) (dCons (dBin rPowD (dC (.int 10)) (dC (.int 25))) (dCons (dC (.str "")) (dCons (dC (.str "A")) (dCons (dC (.str "E")) (dCons (dC (.str "a")) (dCons (dC (.str "spot")) (dCons (dC (.str "vertex")) (dCons (dC (.str "face")) (dCons (dTup dNil) (dCons (dTup (dCons (dC (.int 0)) dNil)) (dCons (dTup (dCons (dC (.int 0)) (dCons (dC (.int 1)) dNil))) (dCons (dTup (dCons (dC (.int 1)) (dCons (dC (.int 1)) dNil))) (dCons (dTup (dCons (dC (.int 2)) (dCons (dC (.int 2)) dNil))) (dCons (dTup (dCons (dC (.int 0)) (dCons (dC (.int 3)) dNil))) (dCons (dTup (dCons (dC (.int 0)) (dCons (dC (.int 0)) dNil))) (dCons (dTup (dCons (dC (.int 1)) (dCons (dC (.int 0)) dNil))) (dCons (dTup (dCons (dC (.int 3)) (dCons (dNeg (dC (.int 2))) dNil))) (dCons (dTup (dCons (dC (.bool true)) (dCons (dC (.int 1)) dNil))) (dCons (dTup (dCons (dC (.int 0)) (dCons (dC (.bool true)) dNil))) (dCons (dTup (dCons (dC (.str "0")) (dCons (dC (.int 1)) dNil))) (dCons (dTup (dCons (dC .none) (dCons (dC (.int 1)) dNil))) (dCons (dVar 1) (dCons (dVar 2) (dCons (dVar 3) (dCons (dTup (dCons (dVar 1) (dCons (dVar 2) dNil))) (dCons (dTup (dCons (dVar 3) (dCons (dVar 1) dNil))) (dCons (dTup (dCons (dVar 1) (dCons (dVar 1) dNil))) (dCons (dTup (dCons (dVar 1) (dCons (dVar 2) (dCons (dVar 3) dNil)))) (dCons (dTup (dCons (dVar 2) (dCons (dVar 3) (dCons (dVar 2) dNil)))) (dCons (dTup (dCons (dTup (dCons (dC (.int 0)) (dCons (dC (.int 1)) dNil))) dNil)) (dCons (dTup (dCons (dTup (dCons (dC (.int 0)) (dCons (dC (.int 1)) dNil))) (dCons (dTup (dCons (dC (.int 0)) (dCons (dC (.int 2)) dNil))) dNil))) (dCons (dTup (dCons (dTup (dCons (dC (.int 0)) (dCons (dC (.int 1)) dNil))) (dCons (dTup (dCons (dC (.int 1)) (dCons (dC (.int 1)) dNil))) (dCons (dTup (dCons (dC (.int 0)) (dCons (dC (.int 1)) dNil))) dNil)))) (dCons (dTup (dCons (dLstV (dCons (dC (.int 0)) (dCons (dC (.int 1)) dNil))) (dCons (dTup (dCons (dC (.int 0)) (dCons (dC (.int 1)) dNil))) dNil))) (dCons (dLstV dNil) (dCons (dLstV (dCons (dC (.int 0)) (dCons (dC (.int 1)) dNil))) (dCons (dLstV (dCons (dTup (dCons (dC (.int 0)) (dCons (dC (.int 1)) dNil))) (dCons (dTup (dCons (dC (.int 0)) (dCons (dC (.int 1)) dNil))) dNil))) (dCons (dDict []) (dCons (dDict [(.str "A", .int 1)]) (dCons (dTup (dCons (dC (.str "vertex")) (dCons (dC (.int 0)) dNil))) (dCons (dTup (dCons (dC (.str "edge")) (dCons (dC (.int 0)) dNil))) (dCons (dTup (dCons (dC (.str "face")) (dCons (dC (.int 0)) dNil))) (dCons (dTup (dCons (dC (.str "face")) (dCons (dC (.int 1)) dNil))) (dCons (dTup (dCons (dC (.str "face")) (dCons (dC (.bool true)) dNil))) (dCons (dTup (dCons (dC (.str "vertex")) (dCons (dNeg (dC (.int 1))) dNil))) (dCons (dTup (dCons (dC (.str "cell")) (dCons (dC (.int 0)) dNil))) (dCons (dLstV (dCons (dC (.str "face")) (dCons (dC (.int 0)) dNil))) (dCons (dTup (dCons (dC (.str "spot")) (dCons (dVar 1) dNil))) (dCons (dTup (dCons (dC (.str "spot")) (dCons (dTup (dCons (dVar 1) dNil)) dNil))) (dCons (dTup (dCons (dC (.str "spot")) (dCons (dVar 1) (dCons (dVar 2) dNil)))) (dCons (dTup (dCons (dC (.str "path")) (dCons (dTup (dCons (dVar 1) (dCons (dVar 2) dNil))) dNil))) (dCons (dTup (dCons (dC (.str "path")) (dCons (dTup (dCons (dVar 1) (dCons (dVar 1) dNil))) dNil))) (dCons (dTup (dCons (dC (.str "path")) (dCons (dTup (dCons (dVar 1) dNil)) dNil))) (dCons (dTup (dCons (dC (.str "path")) (dCons (dTup dNil) dNil))) (dCons (dTup (dCons (dC (.str "area")) (dCons (dTup (dCons (dVar 1) (dCons (dVar 2) (dCons (dVar 3) dNil)))) dNil))) (dCons (dTup (dCons (dC (.str "area")) (dCons (dTup (dCons (dVar 1) (dCons (dVar 2) (dCons (dVar 1) dNil)))) dNil))) (dCons (dTup (dCons (dC (.str "area")) (dCons (dTup (dCons (dVar 1) (dCons (dVar 2) dNil))) dNil))) (dCons (dTup (dCons (dC (.str "area")) (dCons (dLstV (dCons (dVar 1) (dCons (dVar 2) (dCons (dVar 3) dNil)))) dNil))) (dCons (dTup (dCons (dC (.str "rim")) (dCons (dTup (dCons (dC (.str "spot")) (dCons (dVar 1) dNil))) dNil))) (dCons (dTup (dCons (dC (.str "rim")) dNil)) (dCons (dTup (dCons (dC (.str "both")) (dCons (dTup (dCons (dC (.str "spot")) (dCons (dVar 1) dNil))) (dCons (dTup (dCons (dC (.str "spot")) (dCons (dVar 2) dNil))) dNil)))) (dCons (dTup (dCons (dC (.str "both")) (dCons (dTup (dCons (dC (.str "spot")) (dCons (dVar 1) dNil))) dNil))) (dCons (dTup (dCons (dC (.str "not")) (dCons (dTup (dCons (dC (.str "spot")) (dCons (dVar 1) dNil))) dNil))) (dCons (dTup (dCons (dC (.str "closure")) (dCons (dC (.str "A")) dNil))) (dCons (dTup (dCons (dC (.str "inner")) (dCons (dTup (dCons (dC (.str "spot")) (dCons (dVar 2) dNil))) (dCons (dTup (dCons (dC (.str "spot")) (dCons (dVar 2) dNil))) dNil)))) (dCons (dTup (dCons (dTup (dCons (dC (.str "A")) (dCons (dTup (dCons (dC (.str "spot")) (dCons (dVar 1) dNil))) dNil))) dNil)) (dCons (dTup (dCons (dTup (dCons (dC (.str "B")) (dCons (dTup (dCons (dC (.str "spot")) (dCons (dVar 1) dNil))) dNil))) (dCons (dTup (dCons (dC (.str "A")) (dCons (dTup (dCons (dC (.str "spot")) (dCons (dVar 1) dNil))) dNil))) dNil))) (dCons (dTup (dCons (dTup (dCons (dC (.str "a")) (dCons (dTup (dCons (dC (.str "spot")) (dCons (dVar 1) dNil))) dNil))) dNil)) (dCons (dTup (dCons (dTup (dCons (dC (.str "A")) (dCons (dVar 1) dNil))) dNil)) (dCons (dTup (dCons (dTup (dCons (dC (.str "A")) (dCons (dTup (dCons (dC (.str "spot")) (dCons (dVar 1) dNil))) dNil))) (dCons (dTup (dCons (dC (.str "A")) (dCons (dTup (dCons (dC (.str "spot")) (dCons (dVar 2) dNil))) dNil))) dNil))) (dCons (dTup (dCons (dTup (dCons (dVar 1) (dCons (dVar 2) dNil))) (dCons (dTup (dCons (dVar 2) (dCons (dVar 1) dNil))) dNil))) (dCons (dTup (dCons (dTup (dCons (dVar 1) (dCons (dVar 1) dNil))) dNil)) dNil)))))))))))))))))))))))))))))))))))))))))))))))))))))))))))))))))))))))))))))) (hName 4))
def b_odd_3 : TSd := (dRet (dFn0 sp_one_of (dCons (dVar 0) (dCons (dVar 4) dNil))))
def b_odd : TSd := (dSeq b_odd_1 (dSeq b_odd_2 b_odd_3))
def b_bent_1 (sp_self : SpD) : TSd := (dIfS (dAndT (dTst (dIs "tuple" (dVar 1))) (dAndT (dTst (dBin rNeX (dVar 1) (dTup dNil))) (dTst (dBin rGtD (dFn0 sp_draw (dCons (dVar 0) (dCons (dC (.int 5)) dNil))) (dC (.int 0)))))) (dSeq (dAsg (dFn0 sp_draw (dCons (dVar 0) (dCons (dCall cLen (dCons (dVar 1) dNil)) dNil))) (hName 2)) (dRet (dBin rAddD (dBin rAddD (dSl (dVar 1) dNoP (dPart (dVar 2))) (dTup (dCons (dFn0 sp_self (dCons (dVar 0) (dCons (dBin rIxD (dVar 1) (dVar 2)) dNil))) dNil))) (dSl (dVar 1) (dPart (dBin rAddX (dVar 2) (dC (.int 1)))) dNoP)))) dNext)
def b_bent_2 (sp_self : SpD) : TSd := (dAsg (dFn0 sp_draw (dCons (dVar 0) (dCons (dC (.int 9)) dNil))) (hName 3))
def b_bent_3 (sp_self : SpD) : TSd := (dIfS (dAndT (dTst (dIs "tuple" (dVar 1))) (dTst (dBin rLtD (dVar 3) (dC (.int 7))))) (dRet (dBin rIxD (dTup (dCons (dCall cListV (dCons (dVar 1) dNil)) (dCons (dSl (dVar 1) dNoP (dPart (dNeg (dC (.int 1))))) (dCons (dBin rAddD (dVar 1) (dSl (dVar 1) (dPart (dNeg (dC (.int 1)))) dNoP)) (dCons (dRev (dVar 1)) (dCons (dSl (dVar 1) (dPart (dC (.int 1))) dNoP) (dCons (dBin rAddD (dSl (dVar 1) dNoP (dPart (dC (.int 1)))) (dVar 1)) (dCons (dTup (dCons (dVar 1) dNil)) dNil)))))))) (dVar 3))) dNext)
def b_bent_4 (sp_self : SpD) : TSd := (dIfS (dAndT (dTst (dIs "int" (dVar 1))) (dTst (dBin rLtD (dVar 3) (dC (.int 6))))) (dRet (dBin rIxD (dTup (dCons (dBin rAddX (dVar 1) (dC (.int 1))) (dCons (dBin rSubX (dC (.int 0)) (dVar 1)) (dCons (dBin rMulB (dC (.int 2)) (dVar 1)) (dCons (dBin rSubX (dVar 1) (dC (.int 2))) (dCons (dBin rEqV (dVar 1) (dC (.int 1))) (dCons (dCall cStrX (dCons (dVar 1) dNil)) dNil))))))) (dVar 3))) dNext)
def b_bent_5 (sp_self : SpD) : TSd := (dRet (dFn0 sp_odd (dCons (dVar 0) dNil)))
def b_bent (sp_self : SpD) : TSd := (dSeq (b_bent_1 sp_self) (dSeq (b_bent_2 sp_self) (dSeq (b_bent_3 sp_self) (dSeq (b_bent_4 sp_self) (b_bent_5 sp_self)))))
def b_spoilt_1 : TSd := (dAsg (dFn0 sp_draw (dCons (dVar 0) (dCons (dC (.int 12)) dNil))) (hName 2))
def b_spoilt_2 : TSd := (dIfS (dTst (dBin rLtD (dVar 2) (dC (.int 7)))) (dRet (dVar 1)) dNext)
def b_spoilt_3 : TSd := (dRet (dIf (dTst (dBin rLtD (dVar 2) (dC (.int 11)))) (dFn0 sp_bent (dCons (dVar 0) (dCons (dVar 1) dNil))) (dFn0 sp_odd (dCons (dVar 0) dNil))))
def b_spoilt : TSd := (dSeq b_spoilt_1 (dSeq b_spoilt_2 b_spoilt_3))
def b_by_position_1 : TSd := (dAsg (dLst (dCons (dExv 44 "given" (dVar 0)) (dCons (dExv 63 "given" (dVar 0)) (dCons (dExv 82 "given" (dVar 0)) (dCons (dExv 101 "given" (dVar 0)) (dCons (dExv 120 "given" (dVar 0)) dNil)))))) (hName 1))
def b_by_position_2 : TSd := (dAsg (dBin rAddD (dVar 1) (dLst (dCons (dExv 139 "given" (dVar 0)) (dCons (dExv 158 "given" (dVar 0)) (dCons (dExv 177 "given" (dVar 0)) (dCons (dExv 196 "given" (dVar 0)) dNil)))))) (hName 1))
def b_by_position_3 : TSd := (dAsg (dBin rAddD (dVar 1) (dLst (dCons (dExv 215 "given" (dVar 0)) (dCons (dExv 234 "given" (dVar 0)) (dCons (dExv 253 "given" (dVar 0)) (dCons (dExv 272 "given" (dVar 0)) dNil)))))) (hName 1))
def b_by_position_4 : TSd := (dAsg (dBin rAddD (dVar 1) (dLst (dCons (dExv 291 "given" (dVar 0)) (dCons (dExv 310 "given" (dVar 0)) (dCons (dExv 329 "given" (dVar 0)) (dCons (dExv 348 "given" (dVar 0)) (dCons (dExv 367 "given" (dVar 0)) dNil))))))) (hName 1))
def b_by_position_5 : TSd := (dAsg (dBin rAddD (dVar 1) (dLst (dCons (dExv 386 "given" (dVar 0)) (dCons (dExv 405 "given" (dVar 0)) (dCons (dExv 424 "index" (dVar 0)) (dCons (dExv 443 "index" (dVar 0)) dNil)))))) (hName 1))
def b_by_position_6 : TSd := (dRet (dBin rAddD (dVar 1) (dLst (dCons (dExv 462 "index" (dVar 0)) (dCons (dExv 481 "spot" (dVar 0)) (dCons (dExv0 493) (dCons (dExv0 505) (dCons (dExv0 24) dNil))))))))
def b_by_position : TSd := (dSeq b_by_position_1 (dSeq b_by_position_2 (dSeq b_by_position_3 (dSeq b_by_position_4 (dSeq b_by_position_5 b_by_position_6)))))
def b_by_name_1 : TSd := (dAsg (dLst (dCons (dExv 44 "given" (dVar 0)) (dCons (dExv 63 "given" (dVar 0)) (dCons (dExv 82 "given" (dVar 0)) dNil)))) (hName 1))
def b_by_name_2 : TSd := (dAsg (dBin rAddD (dVar 1) (dLst (dCons (dExv 101 "given" (dVar 0)) (dCons (dExv 120 "given" (dVar 0)) (dCons (dExv 139 "given" (dVar 0)) dNil))))) (hName 1))
def b_by_name_3 : TSd := (dAsg (dBin rAddD (dVar 1) (dLst (dCons (dExv 158 "given" (dVar 0)) (dCons (dExv 177 "given" (dVar 0)) (dCons (dExv 196 "given" (dVar 0)) dNil))))) (hName 1))
def b_by_name_4 : TSd := (dAsg (dBin rAddD (dVar 1) (dLst (dCons (dExv 215 "given" (dVar 0)) (dCons (dExv 234 "given" (dVar 0)) (dCons (dExv 253 "given" (dVar 0)) dNil))))) (hName 1))
def b_by_name_5 : TSd := (dAsg (dBin rAddD (dVar 1) (dLst (dCons (dExv 272 "given" (dVar 0)) (dCons (dExv 291 "given" (dVar 0)) (dCons (dExv 310 "given" (dVar 0)) dNil))))) (hName 1))
def b_by_name_6 : TSd := (dAsg (dBin rAddD (dVar 1) (dLst (dCons (dExv 329 "given" (dVar 0)) (dCons (dExv 348 "given" (dVar 0)) (dCons (dExv 367 "given" (dVar 0)) dNil))))) (hName 1))
def b_by_name_7 : TSd := (dAsg (dBin rAddD (dVar 1) (dLst (dCons (dExv 386 "given" (dVar 0)) (dCons (dExv 405 "given" (dVar 0)) (dCons (dExv 424 "index" (dVar 0)) dNil))))) (hName 1))
def b_by_name_8 : TSd := (dAsg (dBin rAddD (dVar 1) (dLst (dCons (dExv 443 "index" (dVar 0)) (dCons (dExv 462 "index" (dVar 0)) (dCons (dExv 481 "spot" (dVar 0)) dNil))))) (hName 1))
def b_by_name_9 : TSd := (dRet (dBin rAddD (dVar 1) (dLst (dCons (dExv0 493) (dCons (dExv0 505) (dCons (dExv0 24) dNil))))))
def b_by_name : TSd := (dSeq b_by_name_1 (dSeq b_by_name_2 (dSeq b_by_name_3 (dSeq b_by_name_4 (dSeq b_by_name_5 (dSeq b_by_name_6 (dSeq b_by_name_7 (dSeq b_by_name_8 b_by_name_9))))))))
def b_under_1 : TSd := (dAsg (dLstV (dCons (dIsx (tabL 0) (dVar 0)) (dCons (dIsx (tabL 1) (dVar 0)) (dCons (dIsx (tabL 2) (dVar 0)) dNil)))) (hName 1))
def b_under_2 : TSd := (dAsg (dBin rAddD (dVar 1) (dLstV (dCons (dIsx (tabL 3) (dVar 0)) (dCons (dIsx (tabL 4) (dVar 0)) (dCons (dIsx (tabL 5) (dVar 0)) dNil))))) (hName 1))
def b_under_3 : TSd := (dAsg (dBin rAddD (dVar 1) (dLstV (dCons (dIsx (tabL 6) (dVar 0)) (dCons (dIsx (tabL 7) (dVar 0)) (dCons (dIsx (tabL 8) (dVar 0)) dNil))))) (hName 1))
def b_under_4 : TSd := (dAsg (dBin rAddD (dVar 1) (dLstV (dCons (dIsx (tabL 9) (dVar 0)) (dCons (dIsx (tabL 10) (dVar 0)) (dCons (dIsx (tabL 11) (dVar 0)) dNil))))) (hName 1))
def b_under_5 : TSd := (dAsg (dBin rAddD (dVar 1) (dLstV (dCons (dIsx (tabL 12) (dVar 0)) (dCons (dIsx (tabL 13) (dVar 0)) (dCons (dIsx (tabL 14) (dVar 0)) dNil))))) (hName 1))
def b_under_6 : TSd := (dAsg (dBin rAddD (dVar 1) (dLstV (dCons (dIsx (tabL 15) (dVar 0)) (dCons (dIsx (tabL 16) (dVar 0)) (dCons (dIsx (tabL 17) (dVar 0)) dNil))))) (hName 1))
def b_under_7 : TSd := (dAsg (dBin rAddD (dVar 1) (dLstV (dCons (dIsx (tabL 18) (dVar 0)) (dCons (dIsx (tabL 19) (dVar 0)) (dCons (dIsx (tabL 20) (dVar 0)) dNil))))) (hName 1))
def b_under_8 : TSd := (dAsg (dBin rAddD (dVar 1) (dLstV (dCons (dIsx (tabL 21) (dVar 0)) (dCons (dIsx (tabL 22) (dVar 0)) (dCons (dIsx (tabL 23) (dVar 0)) dNil))))) (hName 1))
def b_under_9 : TSd := (dAsg (dBin rAddD (dVar 1) (dLstV (dCons (dIsx (tabL 24) (dVar 0)) (dCons (dIsx (tabL 25) (dVar 0)) (dCons (dIsx (tabL 26) (dVar 0)) dNil))))) (hName 1))
def b_under_10 : TSd := (dAsg (dBin rAddD (dVar 1) (dLstV (dCons (dIsx (tabL 27) (dVar 0)) (dCons (dIsx (tabL 28) (dVar 0)) (dCons (dIsx (tabL 29) (dVar 0)) dNil))))) (hName 1))
def b_under_11 : TSd := (dAsg (dBin rAddD (dVar 1) (dLstV (dCons (dIsx (tabL 30) (dVar 0)) (dCons (dIsx (tabL 31) (dVar 0)) (dCons (dIsx (tabL 32) (dVar 0)) dNil))))) (hName 1))
def b_under_12 : TSd := (dRet (dBin rAddD (dVar 1) (dLstV (dCons (dIsx (tabL 33) (dVar 0)) dNil))))
def b_under : TSd := (dSeq b_under_1 (dSeq b_under_2 (dSeq b_under_3 (dSeq b_under_4 (dSeq b_under_5 (dSeq b_under_6 (dSeq b_under_7 (dSeq b_under_8 (dSeq b_under_9 (dSeq b_under_10 (dSeq b_under_11 b_under_12)))))))))))
def b_is_made_1 : TSd := (dIfS (dTst (dBin rNeV (dCall cReprD (dCons (dFn0 sp_under (dCons (dVar 2) dNil)) dNil)) (dCall cReprD (dCons (dLcV (dRng1 (dCons (dC (.int 34)) dNil)) 3 dYes (dOr (dBin rEqV (dVar 3) (dVar 0)) (dChain rLtD rLtD (dC (.int 25)) (dVar 3) (dC (.int 29))))) dNil)))) (dRet (dC (.bool false))) dNext)
def b_is_made_2 : TSd := (dIfS (dTst (dBin rLtD (dVar 0) (dC (.int 20)))) (dRet (dBin rEqV (dCall cReprD (dCons (dXf (okL "given") "given" (dVar 2)) dNil)) (dCall cReprD (dCons (dVar 1) dNil)))) dNext)
def b_is_made_3 : TSd := (dIfS (dTst (dBin rLtD (dVar 0) (dC (.int 23)))) (dRet (dBin rEqV (dCall cReprD (dCons (dXf (okL "index") "index" (dVar 2)) dNil)) (dCall cReprD (dCons (dVar 1) dNil)))) dNext)
def b_is_made_4 : TSd := (dRet (dOr (dBin rGtD (dVar 0) (dC (.int 23))) (dBin rEqV (dCall cReprD (dCons (dXf (okL "spot") "spot" (dVar 2)) dNil)) (dCall cReprD (dCons (dVar 1) dNil)))))
def b_is_made : TSd := (dSeq b_is_made_1 (dSeq b_is_made_2 (dSeq b_is_made_3 b_is_made_4)))
def b_right_1 : TSd := (dAsg (dFn0 sp_spoilt (dCons (dVar 0) (dCons (dTup (dCons (dFn0 sp_odd (dCons (dVar 0) dNil)) (dCons (dFn0 sp_odd (dCons (dVar 0) dNil)) dNil))) dNil))) (hName 1))
def b_right_2 : TSd := (dAsg (dFn0 sp_spoilt (dCons (dVar 0) (dCons (dTup (dCons (dVar 1) (dCons (dFn0 sp_draw (dCons (dVar 0) (dCons (dC (.int 1000)) dNil))) dNil))) dNil))) (hName 2))
def b_right_3 : TSd := (dPar 3 4 (dCons (dFn0 sp_by_position (dCons (dVar 1) dNil)) (dCons (dFn0 sp_by_name (dCons (dVar 2) dNil)) dNil)))
def b_right_4 : TSd := (dIfS (dOrT (dTst (dBin rNeV (dCall cLen (dCons (dVar 3) dNil)) (dC (.int 27)))) (dTst (dBin rNeV (dCall cLen (dCons (dVar 4) dNil)) (dC (.int 27))))) (dRet (dC (.bool false))) dNext)
def b_right_5 : TSd := (dIfS (dNotT (dTst (dCall cAll (dCons (dLcX mkV (dEnumO (dCons (dVar 3) dNil)) (Pat.tup [(Pat.nm 5), (Pat.nm 6)]) dYes (dFn0 sp_is_made (dCons (dVar 5) (dCons (dVar 1) (dCons (dVar 6) dNil))))) dNil)))) (dRet (dC (.bool false))) dNext)
def b_right_6 : TSd := (dRet (dCall cAll (dCons (dLcX mkV (dEnumO (dCons (dVar 4) dNil)) (Pat.tup [(Pat.nm 5), (Pat.nm 6)]) dYes (dFn0 sp_is_made (dCons (dVar 5) (dCons (dVar 2) (dCons (dVar 6) dNil))))) dNil)))
def b_right : TSd := (dSeq b_right_1 (dSeq b_right_2 (dSeq b_right_3 (dSeq b_right_4 (dSeq b_right_5 b_right_6)))))
def b_law : TSd := (dRet (dCall cAll (dCons (dLcV (dRng1 (dCons (dCall cMax (dCons (dC (.int 2)) (dCons (dCall cMin (dCons (dCall cLen (dCons (dVar 0) dNil)) (dCons (dC (.int 3)) dNil))) dNil))) dNil)) 1 dYes (dFn0 sp_right (dCons (dFn0 sp_spring (dCons (dVar 0) (dCons (dVar 1) dNil))) dNil))) dNil)))
end K01
namespace K01
open PySem PySem.Spec PyProof.Rows L2 DL LB
section
variable [Tabs]
variable {P : Program} {w : World} {K : PySem.W.Frag} {mg : Str → Option Value} {base : Heap}
theorem t_spring {k : Nat} (hk : 0 ≤ k) (T : Tx K mg base)  (f : Addr) (cd : Value) (A : Around) (outer : List Env) (s : Shared) (H : Hp) (E : XK) (hG : A.guards = some []) (hr : Room k (A.deeper (envOfC "_law_spring" (defScope s_spring) s.heap.objs.size f cd))) :
    PDSs (cxD P w K mg base N_spring "_law_spring" (defScope s_spring) f cd A outer s H E) (defBody s_spring) b_spring :=
  (pss_dcons (psd_set (i := 2) sc_spring.nd rfl (by first | exact .inl rfl | exact .inr rfl) (pd_bin o_add pd_int (pd_bin o_mul pd_int (pd 1)))) (pss_dcons (psd_for PassesOwn.never rfl (pdi_seq (pd_sl (pd 0) pdo_none (pdo_some pd_int))) (pdg_name (i := 3) sc_spring.nd rfl (by first | exact .inl rfl | exact .inr rfl)) (pss_done (psd_set (i := 2) sc_spring.nd rfl (by first | exact .inl rfl | exact .inr rfl) (pd_bin o_mod (pd_callTy c_int rfl T.n_int bt_int (pda_cons (pd_bin o_add (pd_bin o_add (pd_bin o_mul (pd 2) pd_int) (pd_bin o_mod (pd_callTy c_int rfl T.n_int bt_int (pda_cons (pd 3) pda_nil)) pd_int)) pd_int) pda_nil)) pd_int)))) (pss_dcons (psd_set (i := 4) sc_spring.nd rfl (by first | exact .inl rfl | exact .inr rfl) (pd_if (pdt_cmp o_lt (pd 1) (pd_callB c_len rfl T.n_len bt_len (pda_cons (pd 0) pda_nil)) (nomark _)) (pd_callTy c_int rfl T.n_int bt_int (pda_cons (pd_ix (pd 0) (pd 1) (fun _ _ => rfl)) pda_nil)) pd_int)) (pss_dcons (psd_set (i := 2) sc_spring.nd rfl (by first | exact .inl rfl | exact .inr rfl) (pd_bin o_mod (pd_callTy c_int rfl T.n_int bt_int (pda_cons (pd_bin o_add (pd_bin o_add (pd_bin o_mul (pd 2) pd_int) (pd_bin o_mul (pd_bin o_mod (pd_callTy c_int rfl T.n_int bt_int (pda_cons (pd 4) pda_nil)) pd_int) pd_int)) pd_int) pda_nil)) pd_int)) (pss_done (psd_ret (pd_lst (pda_cons (pd_if (pdt_w (pdw_or (pdt_cmp o_lt (pd 4) pd_int (nomark _)) (pdw_or1 (pdt_cmp o_ge (pd 4) (pd_bin o_pow pd_int pd_int) (nomark _))))) (pd_callB c_abs rfl T.n_abs bt_abs (pda_cons (pd 4) pda_nil)) pd_int) (pda_cons (pd 2) (pda_cons pd_int pda_nil))))))))))
theorem t_draw {k : Nat} (hk : 0 ≤ k) (T : Tx K mg base)  (f : Addr) (cd : Value) (A : Around) (outer : List Env) (s : Shared) (H : Hp) (E : XK) (hG : A.guards = some []) (hr : Room k (A.deeper (envOfC "_law_draw" (defScope s_draw) s.heap.objs.size f cd))) :
    PDSs (cxD P w K mg base N_draw "_law_draw" (defScope s_draw) f cd A outer s H E) (defBody s_draw) b_draw :=
  (pss_dcons (psd_if (pdt_cmp o_gt (pd_ix (pd 0) pd_int (fun _ _ => rfl)) pd_int (nomark _)) (pss_dcons (psd_asg (pd_callB c_divmod rfl T.n_divmod bt_divmod (pda_cons (pd_ix (pd 0) pd_int (fun _ _ => rfl)) (pda_cons (pd 1) pda_nil))) (pdg_tup (n := 2) rfl (pdgs_cons (pdg_sub (pd 0) pd_int) (pdgs_cons (pdg_name (i := 2) sc_draw.nd rfl (by first | exact .inl rfl | exact .inr rfl)) pdgs_nil)))) (pss_done (psd_ret (pd 2)))) pss_dnil) (pss_dcons (psd_asg (pd_bin o_add (pd_ix (pd 0) pd_int (fun _ _ => rfl)) pd_int) (pdg_sub (pd 0) pd_int)) (pss_dcons (psd_set (i := 3) sc_draw.nd rfl (by first | exact .inl rfl | exact .inr rfl) (pd_bin o_mod (pd_callTy c_int rfl T.n_int bt_int (pda_cons (pd_bin o_add (pd_ix (pd 0) pd_int (fun _ _ => rfl)) (pd_bin o_mul pd_int (pd_ix (pd 0) pd_int (fun _ _ => rfl)))) pda_nil)) pd_int)) (pss_dcons (psd_asg (pd_bin o_mod (pd_callTy c_int rfl T.n_int bt_int (pda_cons (pd_bin o_add (pd_bin o_mul (pd 3) (pd_bin o_add (pd_bin o_mod (pd_callTy c_int rfl T.n_int bt_int (pda_cons (pd 3) pda_nil)) pd_int) pd_int)) (pd_bin o_mul pd_int (pd_ix (pd 0) pd_int (fun _ _ => rfl)))) pda_nil)) pd_int) (pdg_sub (pd 0) pd_int)) (pss_done (psd_ret (pd_bin o_mod (pd_callTy c_int rfl T.n_int bt_int (pda_cons (pd_bin o_div (pd_ix (pd 0) pd_int (fun _ _ => rfl)) pd_int) pda_nil)) (pd 1))))))))
theorem t_one_of {k : Nat} (hk : 1 ≤ k) (T : Tx K mg base) (c_draw : Can P w K mg base 1 "_law_draw" s_draw ["_law_spring_here", "_law_many"] sp_draw) (f : Addr) (cd : Value) (A : Around) (outer : List Env) (s : Shared) (H : Hp) (E : XK) (hG : A.guards = some []) (hr : Room k (A.deeper (envOfC "_law_one_of" (defScope s_one_of) s.heap.objs.size f cd))) :
    PDSs (cxD P w K mg base N_one_of "_law_one_of" (defScope s_one_of) f cd A outer s H E) (defBody s_one_of) b_one_of :=
  (pss_done (psd_ret (pd_ix (pd 1) (pd_call c_draw hG (hr.mono (by omega)) rfl (pda_cons (pd 0) (pda_cons (pd_callB c_len rfl T.n_len bt_len (pda_cons (pd 1) pda_nil)) pda_nil))) (fun _ _ => rfl))))
theorem t_odd {k : Nat} (hk : 2 ≤ k) (T : Tx K mg base) (c_one_of : Can P w K mg base 2 "_law_one_of" s_one_of ["_law_spring_here", "_law_some"] sp_one_of) (f : Addr) (cd : Value) (A : Around) (outer : List Env) (s : Shared) (H : Hp) (E : XK) (hG : A.guards = some []) (hr : Room k (A.deeper (envOfC "_law_odd" (defScope s_odd) s.heap.objs.size f cd))) :
    PDSs (cxD P w K mg base N_odd "_law_odd" (defScope s_odd) f cd A outer s H E) (defBody s_odd) b_odd :=
  (pss_dcons (psd_asg (pd_tup (pda_cons (pd_tup (pda_cons (pd_tup (pda_cons pd_int (pda_cons pd_int pda_nil))) (pda_cons (pd_tup (pda_cons pd_int (pda_cons pd_int pda_nil))) pda_nil))) (pda_cons (pd_tup (pda_cons (pd_tup (pda_cons pd_int (pda_cons pd_int pda_nil))) (pda_cons (pd_tup (pda_cons pd_int (pda_cons pd_int pda_nil))) pda_nil))) (pda_cons (pd_tup (pda_cons (pd_tup (pda_cons (pd_neg pd_int) (pda_cons pd_int pda_nil))) (pda_cons (pd_tup (pda_cons pd_int (pda_cons pd_int pda_nil))) pda_nil))) pda_nil)))) (pdg_tup (n := 3) rfl (pdgs_cons (pdg_name (i := 1) sc_odd.nd rfl (by first | exact .inl rfl | exact .inr rfl)) (pdgs_cons (pdg_name (i := 2) sc_odd.nd rfl (by first | exact .inl rfl | exact .inr rfl)) (pdgs_cons (pdg_name (i := 3) sc_odd.nd rfl (by first | exact .inl rfl | exact .inr rfl)) pdgs_nil))))) (pss_dcons (psd_set (i := 4) sc_odd.nd rfl (by first | exact .inl rfl | exact .inr rfl) (pd_lstV (pda_cons pd_non (pda_cons pd_bl (pda_cons pd_bl (pda_cons pd_int (pda_cons pd_int (pda_cons (pd_neg pd_int) (pda_cons (pd_bin o_pow pd_int pd_int) (pda_cons pd_str (pda_cons pd_str (pda_cons pd_str (pda_cons pd_str (pda_cons pd_str (pda_cons pd_str (pda_cons pd_str (pda_cons (pd_tup pda_nil) (pda_cons (pd_tup (pda_cons pd_int pda_nil)) (pda_cons (pd_tup (pda_cons pd_int (pda_cons pd_int pda_nil))) (pda_cons (pd_tup (pda_cons pd_int (pda_cons pd_int pda_nil))) (pda_cons (pd_tup (pda_cons pd_int (pda_cons pd_int pda_nil))) (pda_cons (pd_tup (pda_cons pd_int (pda_cons pd_int pda_nil))) (pda_cons (pd_tup (pda_cons pd_int (pda_cons pd_int pda_nil))) (pda_cons (pd_tup (pda_cons pd_int (pda_cons pd_int pda_nil))) (pda_cons (pd_tup (pda_cons pd_int (pda_cons (pd_neg pd_int) pda_nil))) (pda_cons (pd_tup (pda_cons pd_bl (pda_cons pd_int pda_nil))) (pda_cons (pd_tup (pda_cons pd_int (pda_cons pd_bl pda_nil))) (pda_cons (pd_tup (pda_cons pd_str (pda_cons pd_int pda_nil))) (pda_cons (pd_tup (pda_cons pd_non (pda_cons pd_int pda_nil))) (pda_cons (pd 1) (pda_cons (pd 2) (pda_cons (pd 3) (pda_cons (pd_tup (pda_cons (pd 1) (pda_cons (pd 2) pda_nil))) (pda_cons (pd_tup (pda_cons (pd 3) (pda_cons (pd 1) pda_nil))) (pda_cons (pd_tup (pda_cons (pd 1) (pda_cons (pd 1) pda_nil))) (pda_cons (pd_tup (pda_cons (pd 1) (pda_cons (pd 2) (pda_cons (pd 3) pda_nil)))) (pda_cons (pd_tup (pda_cons (pd 2) (pda_cons (pd 3) (pda_cons (pd 2) pda_nil)))) (pda_cons (pd_tup (pda_cons (pd_tup (pda_cons pd_int (pda_cons pd_int pda_nil))) pda_nil)) (pda_cons (pd_tup (pda_cons (pd_tup (pda_cons pd_int (pda_cons pd_int pda_nil))) (pda_cons (pd_tup (pda_cons pd_int (pda_cons pd_int pda_nil))) pda_nil))) (pda_cons (pd_tup (pda_cons (pd_tup (pda_cons pd_int (pda_cons pd_int pda_nil))) (pda_cons (pd_tup (pda_cons pd_int (pda_cons pd_int pda_nil))) (pda_cons (pd_tup (pda_cons pd_int (pda_cons pd_int pda_nil))) pda_nil)))) (pda_cons (pd_tup (pda_cons (pd_lstV (pda_cons pd_int (pda_cons pd_int pda_nil))) (pda_cons (pd_tup (pda_cons pd_int (pda_cons pd_int pda_nil))) pda_nil))) (pda_cons (pd_lstV pda_nil) (pda_cons (pd_lstV (pda_cons pd_int (pda_cons pd_int pda_nil))) (pda_cons (pd_lstV (pda_cons (pd_tup (pda_cons pd_int (pda_cons pd_int pda_nil))) (pda_cons (pd_tup (pda_cons pd_int (pda_cons pd_int pda_nil))) pda_nil))) (pda_cons pd_dict0 (pda_cons pd_dict1 (pda_cons (pd_tup (pda_cons pd_str (pda_cons pd_int pda_nil))) (pda_cons (pd_tup (pda_cons pd_str (pda_cons pd_int pda_nil))) (pda_cons (pd_tup (pda_cons pd_str (pda_cons pd_int pda_nil))) (pda_cons (pd_tup (pda_cons pd_str (pda_cons pd_int pda_nil))) (pda_cons (pd_tup (pda_cons pd_str (pda_cons pd_bl pda_nil))) (pda_cons (pd_tup (pda_cons pd_str (pda_cons (pd_neg pd_int) pda_nil))) (pda_cons (pd_tup (pda_cons pd_str (pda_cons pd_int pda_nil))) (pda_cons (pd_lstV (pda_cons pd_str (pda_cons pd_int pda_nil))) (pda_cons (pd_tup (pda_cons pd_str (pda_cons (pd 1) pda_nil))) (pda_cons (pd_tup (pda_cons pd_str (pda_cons (pd_tup (pda_cons (pd 1) pda_nil)) pda_nil))) (pda_cons (pd_tup (pda_cons pd_str (pda_cons (pd 1) (pda_cons (pd 2) pda_nil)))) (pda_cons (pd_tup (pda_cons pd_str (pda_cons (pd_tup (pda_cons (pd 1) (pda_cons (pd 2) pda_nil))) pda_nil))) (pda_cons (pd_tup (pda_cons pd_str (pda_cons (pd_tup (pda_cons (pd 1) (pda_cons (pd 1) pda_nil))) pda_nil))) (pda_cons (pd_tup (pda_cons pd_str (pda_cons (pd_tup (pda_cons (pd 1) pda_nil)) pda_nil))) (pda_cons (pd_tup (pda_cons pd_str (pda_cons (pd_tup pda_nil) pda_nil))) (pda_cons (pd_tup (pda_cons pd_str (pda_cons (pd_tup (pda_cons (pd 1) (pda_cons (pd 2) (pda_cons (pd 3) pda_nil)))) pda_nil))) (pda_cons (pd_tup (pda_cons pd_str (pda_cons (pd_tup (pda_cons (pd 1) (pda_cons (pd 2) (pda_cons (pd 1) pda_nil)))) pda_nil))) (pda_cons (pd_tup (pda_cons pd_str (pda_cons (pd_tup (pda_cons (pd 1) (pda_cons (pd 2) pda_nil))) pda_nil))) (pda_cons (pd_tup (pda_cons pd_str (pda_cons (pd_lstV (pda_cons (pd 1) (pda_cons (pd 2) (pda_cons (pd 3) pda_nil)))) pda_nil))) (pda_cons (pd_tup (pda_cons pd_str (pda_cons (pd_tup (pda_cons pd_str (pda_cons (pd 1) pda_nil))) pda_nil))) (pda_cons (pd_tup (pda_cons pd_str pda_nil)) (pda_cons (pd_tup (pda_cons pd_str (pda_cons (pd_tup (pda_cons pd_str (pda_cons (pd 1) pda_nil))) (pda_cons (pd_tup (pda_cons pd_str (pda_cons (pd 2) pda_nil))) pda_nil)))) (pda_cons (pd_tup (pda_cons pd_str (pda_cons (pd_tup (pda_cons pd_str (pda_cons (pd 1) pda_nil))) pda_nil))) (pda_cons (pd_tup (pda_cons pd_str (pda_cons (pd_tup (pda_cons pd_str (pda_cons (pd 1) pda_nil))) pda_nil))) (pda_cons (pd_tup (pda_cons pd_str (pda_cons pd_str pda_nil))) (pda_cons (pd_tup (pda_cons pd_str (pda_cons (pd_tup (pda_cons pd_str (pda_cons (pd 2) pda_nil))) (pda_cons (pd_tup (pda_cons pd_str (pda_cons (pd 2) pda_nil))) pda_nil)))) (pda_cons (pd_tup (pda_cons (pd_tup (pda_cons pd_str (pda_cons (pd_tup (pda_cons pd_str (pda_cons (pd 1) pda_nil))) pda_nil))) pda_nil)) (pda_cons (pd_tup (pda_cons (pd_tup (pda_cons pd_str (pda_cons (pd_tup (pda_cons pd_str (pda_cons (pd 1) pda_nil))) pda_nil))) (pda_cons (pd_tup (pda_cons pd_str (pda_cons (pd_tup (pda_cons pd_str (pda_cons (pd 1) pda_nil))) pda_nil))) pda_nil))) (pda_cons (pd_tup (pda_cons (pd_tup (pda_cons pd_str (pda_cons (pd_tup (pda_cons pd_str (pda_cons (pd 1) pda_nil))) pda_nil))) pda_nil)) (pda_cons (pd_tup (pda_cons (pd_tup (pda_cons pd_str (pda_cons (pd 1) pda_nil))) pda_nil)) (pda_cons (pd_tup (pda_cons (pd_tup (pda_cons pd_str (pda_cons (pd_tup (pda_cons pd_str (pda_cons (pd 1) pda_nil))) pda_nil))) (pda_cons (pd_tup (pda_cons pd_str (pda_cons (pd_tup (pda_cons pd_str (pda_cons (pd 2) pda_nil))) pda_nil))) pda_nil))) (pda_cons (pd_tup (pda_cons (pd_tup (pda_cons (pd 1) (pda_cons (pd 2) pda_nil))) (pda_cons (pd_tup (pda_cons (pd 2) (pda_cons (pd 1) pda_nil))) pda_nil))) (pda_cons (pd_tup (pda_cons (pd_tup (pda_cons (pd 1) (pda_cons (pd 1) pda_nil))) pda_nil)) pda_nil))))))))))))))))))))))))))))))))))))))))))))))))))))))))))))))))))))))))))))))) (pss_done (psd_ret (pd_call c_one_of hG (hr.mono (by omega)) rfl (pda_cons (pd 0) (pda_cons (pd 4) pda_nil)))))))
theorem t_bent {k : Nat} (hk : 3 ≤ k) (T : Tx K mg base) (c_draw : Can P w K mg base 1 "_law_draw" s_draw ["_law_spring_here", "_law_many"] sp_draw) {sp_self : SpD} (c_self : Can P w K mg base k "_law_bent" s_bent ["_law_spring_here", "_law_thing"] sp_self) (c_odd : Can P w K mg base 3 "_law_odd" s_odd ["_law_spring_here"] sp_odd) (f : Addr) (cd : Value) (A : Around) (outer : List Env) (s : Shared) (H : Hp) (E : XK) (hG : A.guards = some []) (hr : Room k (A.deeper (envOfC "_law_bent" (defScope s_bent) s.heap.objs.size f cd))) :
    PDSs (cxD P w K mg base N_bent "_law_bent" (defScope s_bent) f cd A outer s H E) (defBody s_bent) (b_bent sp_self) :=
  (pss_dcons (psd_if (pdt_w (pdw_and (pdt_val (pd_is rfl T.n_isinstance rfl T.n_tuple bt_tuple (pd 1) bt_isinstance)) (pdw_and (pdt_cmp (o_neX hr.units) (pd 1) (pd_tup pda_nil) (nomark _)) (pdw_and1 (pdt_cmp o_gt (pd_call c_draw hG (hr.mono (by omega)) rfl (pda_cons (pd 0) (pda_cons pd_int pda_nil))) pd_int (nomark _)))))) (pss_dcons (psd_set (i := 2) sc_bent.nd rfl (by first | exact .inl rfl | exact .inr rfl) (pd_call c_draw hG (hr.mono (by omega)) rfl (pda_cons (pd 0) (pda_cons (pd_callB c_len rfl T.n_len bt_len (pda_cons (pd 1) pda_nil)) pda_nil)))) (pss_done (psd_ret (pd_bin o_add (pd_bin o_add (pd_sl (pd 1) pdo_none (pdo_some (pd 2))) (pd_tup (pda_cons (pd_call c_self hG (hr.mono (by omega)) rfl (pda_cons (pd 0) (pda_cons (pd_ix (pd 1) (pd 2) (fun _ _ => rfl)) pda_nil))) pda_nil))) (pd_sl (pd 1) (pdo_some (pd_bin o_addX (pd 2) pd_int)) pdo_none))))) pss_dnil) (pss_dcons (psd_set (i := 3) sc_bent.nd rfl (by first | exact .inl rfl | exact .inr rfl) (pd_call c_draw hG (hr.mono (by omega)) rfl (pda_cons (pd 0) (pda_cons pd_int pda_nil)))) (pss_dcons (psd_if (pdt_w (pdw_and (pdt_val (pd_is rfl T.n_isinstance rfl T.n_tuple bt_tuple (pd 1) bt_isinstance)) (pdw_and1 (pdt_cmp o_lt (pd 3) pd_int (nomark _))))) (pss_done (psd_ret (pd_ix (pd_tup (pda_cons (pd_callTy c_listV rfl T.n_list bt_list (pda_cons (pd 1) pda_nil)) (pda_cons (pd_sl (pd 1) pdo_none (pdo_some (pd_neg pd_int))) (pda_cons (pd_bin o_add (pd 1) (pd_sl (pd 1) (pdo_some (pd_neg pd_int)) pdo_none)) (pda_cons (pd_rev (pd 1)) (pda_cons (pd_sl (pd 1) (pdo_some pd_int) pdo_none) (pda_cons (pd_bin o_add (pd_sl (pd 1) pdo_none (pdo_some pd_int)) (pd 1)) (pda_cons (pd_tup (pda_cons (pd 1) pda_nil)) pda_nil)))))))) (pd 3) (fun _ _ => rfl)))) pss_dnil) (pss_dcons (psd_if (pdt_w (pdw_and (pdt_val (pd_is rfl T.n_isinstance rfl T.n_int bt_int (pd 1) bt_isinstance)) (pdw_and1 (pdt_cmp o_lt (pd 3) pd_int (nomark _))))) (pss_done (psd_ret (pd_ix (pd_tup (pda_cons (pd_bin o_addX (pd 1) pd_int) (pda_cons (pd_bin o_subX pd_int (pd 1)) (pda_cons (pd_bin o_mulB pd_int (pd 1)) (pda_cons (pd_bin o_subX (pd 1) pd_int) (pda_cons (pd_cmp (o_eq hr.units) (pd 1) pd_int (nomark _)) (pda_cons (pd_callTy c_strX rfl T.n_str bt_str (pda_cons (pd 1) pda_nil)) pda_nil))))))) (pd 3) (fun _ _ => rfl)))) pss_dnil) (pss_done (psd_ret (pd_call c_odd hG (hr.mono (by omega)) rfl (pda_cons (pd 0) pda_nil))))))))
theorem t_spoilt {k : Nat} (hk : 44 ≤ k) (T : Tx K mg base) (c_draw : Can P w K mg base 1 "_law_draw" s_draw ["_law_spring_here", "_law_many"] sp_draw) (c_bent : Can P w K mg base 44 "_law_bent" s_bent ["_law_spring_here", "_law_thing"] sp_bent) (c_odd : Can P w K mg base 3 "_law_odd" s_odd ["_law_spring_here"] sp_odd) (f : Addr) (cd : Value) (A : Around) (outer : List Env) (s : Shared) (H : Hp) (E : XK) (hG : A.guards = some []) (hr : Room k (A.deeper (envOfC "_law_spoilt" (defScope s_spoilt) s.heap.objs.size f cd))) :
    PDSs (cxD P w K mg base N_spoilt "_law_spoilt" (defScope s_spoilt) f cd A outer s H E) (defBody s_spoilt) b_spoilt :=
  (pss_dcons (psd_set (i := 2) sc_spoilt.nd rfl (by first | exact .inl rfl | exact .inr rfl) (pd_call c_draw hG (hr.mono (by omega)) rfl (pda_cons (pd 0) (pda_cons pd_int pda_nil)))) (pss_dcons (psd_if (pdt_cmp o_lt (pd 2) pd_int (nomark _)) (pss_done (psd_ret (pd 1))) pss_dnil) (pss_done (psd_ret (pd_if (pdt_cmp o_lt (pd 2) pd_int (nomark _)) (pd_call c_bent hG (hr.mono (by omega)) rfl (pda_cons (pd 0) (pda_cons (pd 1) pda_nil))) (pd_call c_odd hG (hr.mono (by omega)) rfl (pda_cons (pd 0) pda_nil)))))))
theorem t_by_position {k : Nat} (hk : 2 ≤ k) (T : Tx K mg base) (x_InvalidPoint : CanX P w K mg base 1 "InvalidPoint" 44 "given") (x_InvalidSegment : CanX P w K mg base 1 "InvalidSegment" 63 "given") (x_InvalidFigure : CanX P w K mg base 1 "InvalidFigure" 82 "given") (x_InvalidScene : CanX P w K mg base 1 "InvalidScene" 101 "given") (x_InvalidCell : CanX P w K mg base 1 "InvalidCell" 120 "given") (x_InvalidName : CanX P w K mg base 1 "InvalidName" 139 "given") (x_InvalidIndex : CanX P w K mg base 1 "InvalidIndex" 158 "given") (x_InvalidMap : CanX P w K mg base 1 "InvalidMap" 177 "given") (x_InvalidDart : CanX P w K mg base 1 "InvalidDart" 196 "given") (x_InvalidSpecial : CanX P w K mg base 1 "InvalidSpecial" 215 "given") (x_InvalidFace : CanX P w K mg base 1 "InvalidFace" 234 "given") (x_InvalidPart : CanX P w K mg base 1 "InvalidPart" 253 "given") (x_InvalidStep : CanX P w K mg base 1 "InvalidStep" 272 "given") (x_InvalidSide : CanX P w K mg base 1 "InvalidSide" 291 "given") (x_InvalidCode : CanX P w K mg base 1 "InvalidCode" 310 "given") (x_InvalidPick : CanX P w K mg base 1 "InvalidPick" 329 "given") (x_InvalidDeed : CanX P w K mg base 1 "InvalidDeed" 348 "given") (x_InvalidBook : CanX P w K mg base 1 "InvalidBook" 367 "given") (x_InvalidWindow : CanX P w K mg base 1 "InvalidWindow" 386 "given") (x_TooMany : CanX P w K mg base 1 "TooMany" 405 "given") (x_InvalidSegments : CanX P w K mg base 1 "InvalidSegments" 424 "index") (x_InvalidPoints : CanX P w K mg base 1 "InvalidPoints" 443 "index") (x_InvalidLines : CanX P w K mg base 1 "InvalidLines" 462 "index") (x_BadText : CanX P w K mg base 1 "BadText" 481 "spot")  (f : Addr) (cd : Value) (A : Around) (outer : List Env) (s : Shared) (H : Hp) (E : XK) (hG : A.guards = some []) (hr : Room k (A.deeper (envOfC "_law_by_position" (defScope s_by_position) s.heap.objs.size f cd))) :
    PDSs (cxD P w K mg base N_by_position "_law_by_position" (defScope s_by_position) f cd A outer s H E) (defBody s_by_position) b_by_position :=
  (pss_dcons (psd_set (i := 1) sc_by_position.nd rfl (by first | exact .inl rfl | exact .inr rfl) (pd_lst (pda_cons (pd_exv x_InvalidPoint hG (hr.mono (by omega)) rfl (pd 0)) (pda_cons (pd_exv x_InvalidSegment hG (hr.mono (by omega)) rfl (pd 0)) (pda_cons (pd_exv x_InvalidFigure hG (hr.mono (by omega)) rfl (pd 0)) (pda_cons (pd_exv x_InvalidScene hG (hr.mono (by omega)) rfl (pd 0)) (pda_cons (pd_exv x_InvalidCell hG (hr.mono (by omega)) rfl (pd 0)) pda_nil))))))) (pss_dcons (psd_set (i := 1) sc_by_position.nd rfl (by first | exact .inl rfl | exact .inr rfl) (pd_bin o_add (pd 1) (pd_lst (pda_cons (pd_exv x_InvalidName hG (hr.mono (by omega)) rfl (pd 0)) (pda_cons (pd_exv x_InvalidIndex hG (hr.mono (by omega)) rfl (pd 0)) (pda_cons (pd_exv x_InvalidMap hG (hr.mono (by omega)) rfl (pd 0)) (pda_cons (pd_exv x_InvalidDart hG (hr.mono (by omega)) rfl (pd 0)) pda_nil))))))) (pss_dcons (psd_set (i := 1) sc_by_position.nd rfl (by first | exact .inl rfl | exact .inr rfl) (pd_bin o_add (pd 1) (pd_lst (pda_cons (pd_exv x_InvalidSpecial hG (hr.mono (by omega)) rfl (pd 0)) (pda_cons (pd_exv x_InvalidFace hG (hr.mono (by omega)) rfl (pd 0)) (pda_cons (pd_exv x_InvalidPart hG (hr.mono (by omega)) rfl (pd 0)) (pda_cons (pd_exv x_InvalidStep hG (hr.mono (by omega)) rfl (pd 0)) pda_nil))))))) (pss_dcons (psd_set (i := 1) sc_by_position.nd rfl (by first | exact .inl rfl | exact .inr rfl) (pd_bin o_add (pd 1) (pd_lst (pda_cons (pd_exv x_InvalidSide hG (hr.mono (by omega)) rfl (pd 0)) (pda_cons (pd_exv x_InvalidCode hG (hr.mono (by omega)) rfl (pd 0)) (pda_cons (pd_exv x_InvalidPick hG (hr.mono (by omega)) rfl (pd 0)) (pda_cons (pd_exv x_InvalidDeed hG (hr.mono (by omega)) rfl (pd 0)) (pda_cons (pd_exv x_InvalidBook hG (hr.mono (by omega)) rfl (pd 0)) pda_nil)))))))) (pss_dcons (psd_set (i := 1) sc_by_position.nd rfl (by first | exact .inl rfl | exact .inr rfl) (pd_bin o_add (pd 1) (pd_lst (pda_cons (pd_exv x_InvalidWindow hG (hr.mono (by omega)) rfl (pd 0)) (pda_cons (pd_exv x_TooMany hG (hr.mono (by omega)) rfl (pd 0)) (pda_cons (pd_exv x_InvalidSegments hG (hr.mono (by omega)) rfl (pd 0)) (pda_cons (pd_exv x_InvalidPoints hG (hr.mono (by omega)) rfl (pd 0)) pda_nil))))))) (pss_done (psd_ret (pd_bin o_add (pd 1) (pd_lst (pda_cons (pd_exv x_InvalidLines hG (hr.mono (by omega)) rfl (pd 0)) (pda_cons (pd_exv x_BadText hG (hr.mono (by omega)) rfl (pd 0)) (pda_cons (pd_exv0 PySem.F.excBase_ValueError T.e_NothingToUndo T.k_NothingToUndo T.m_NothingToUndo rfl) (pda_cons (pd_exv0 PySem.F.excBase_ValueError T.e_NothingToRedo T.k_NothingToRedo T.m_NothingToRedo rfl) (pda_cons (pd_exv0 PySem.F.excBase_ValueError T.e_BendError T.k_BendError T.m_BendError rfl) pda_nil))))))))))))))
theorem t_by_name {k : Nat} (hk : 2 ≤ k) (T : Tx K mg base) (x_InvalidPoint : CanX P w K mg base 1 "InvalidPoint" 44 "given") (x_InvalidSegment : CanX P w K mg base 1 "InvalidSegment" 63 "given") (x_InvalidFigure : CanX P w K mg base 1 "InvalidFigure" 82 "given") (x_InvalidScene : CanX P w K mg base 1 "InvalidScene" 101 "given") (x_InvalidCell : CanX P w K mg base 1 "InvalidCell" 120 "given") (x_InvalidName : CanX P w K mg base 1 "InvalidName" 139 "given") (x_InvalidIndex : CanX P w K mg base 1 "InvalidIndex" 158 "given") (x_InvalidMap : CanX P w K mg base 1 "InvalidMap" 177 "given") (x_InvalidDart : CanX P w K mg base 1 "InvalidDart" 196 "given") (x_InvalidSpecial : CanX P w K mg base 1 "InvalidSpecial" 215 "given") (x_InvalidFace : CanX P w K mg base 1 "InvalidFace" 234 "given") (x_InvalidPart : CanX P w K mg base 1 "InvalidPart" 253 "given") (x_InvalidStep : CanX P w K mg base 1 "InvalidStep" 272 "given") (x_InvalidSide : CanX P w K mg base 1 "InvalidSide" 291 "given") (x_InvalidCode : CanX P w K mg base 1 "InvalidCode" 310 "given") (x_InvalidPick : CanX P w K mg base 1 "InvalidPick" 329 "given") (x_InvalidDeed : CanX P w K mg base 1 "InvalidDeed" 348 "given") (x_InvalidBook : CanX P w K mg base 1 "InvalidBook" 367 "given") (x_InvalidWindow : CanX P w K mg base 1 "InvalidWindow" 386 "given") (x_TooMany : CanX P w K mg base 1 "TooMany" 405 "given") (x_InvalidSegments : CanX P w K mg base 1 "InvalidSegments" 424 "index") (x_InvalidPoints : CanX P w K mg base 1 "InvalidPoints" 443 "index") (x_InvalidLines : CanX P w K mg base 1 "InvalidLines" 462 "index") (x_BadText : CanX P w K mg base 1 "BadText" 481 "spot")  (f : Addr) (cd : Value) (A : Around) (outer : List Env) (s : Shared) (H : Hp) (E : XK) (hG : A.guards = some []) (hr : Room k (A.deeper (envOfC "_law_by_name" (defScope s_by_name) s.heap.objs.size f cd))) :
    PDSs (cxD P w K mg base N_by_name "_law_by_name" (defScope s_by_name) f cd A outer s H E) (defBody s_by_name) b_by_name :=
  (pss_dcons (psd_set (i := 1) sc_by_name.nd rfl (by first | exact .inl rfl | exact .inr rfl) (pd_lst (pda_cons (pd_exvK x_InvalidPoint hG (hr.mono (by omega)) rfl (pd 0)) (pda_cons (pd_exvK x_InvalidSegment hG (hr.mono (by omega)) rfl (pd 0)) (pda_cons (pd_exvK x_InvalidFigure hG (hr.mono (by omega)) rfl (pd 0)) pda_nil))))) (pss_dcons (psd_set (i := 1) sc_by_name.nd rfl (by first | exact .inl rfl | exact .inr rfl) (pd_bin o_add (pd 1) (pd_lst (pda_cons (pd_exvK x_InvalidScene hG (hr.mono (by omega)) rfl (pd 0)) (pda_cons (pd_exvK x_InvalidCell hG (hr.mono (by omega)) rfl (pd 0)) (pda_cons (pd_exvK x_InvalidName hG (hr.mono (by omega)) rfl (pd 0)) pda_nil)))))) (pss_dcons (psd_set (i := 1) sc_by_name.nd rfl (by first | exact .inl rfl | exact .inr rfl) (pd_bin o_add (pd 1) (pd_lst (pda_cons (pd_exvK x_InvalidIndex hG (hr.mono (by omega)) rfl (pd 0)) (pda_cons (pd_exvK x_InvalidMap hG (hr.mono (by omega)) rfl (pd 0)) (pda_cons (pd_exvK x_InvalidDart hG (hr.mono (by omega)) rfl (pd 0)) pda_nil)))))) (pss_dcons (psd_set (i := 1) sc_by_name.nd rfl (by first | exact .inl rfl | exact .inr rfl) (pd_bin o_add (pd 1) (pd_lst (pda_cons (pd_exvK x_InvalidSpecial hG (hr.mono (by omega)) rfl (pd 0)) (pda_cons (pd_exvK x_InvalidFace hG (hr.mono (by omega)) rfl (pd 0)) (pda_cons (pd_exvK x_InvalidPart hG (hr.mono (by omega)) rfl (pd 0)) pda_nil)))))) (pss_dcons (psd_set (i := 1) sc_by_name.nd rfl (by first | exact .inl rfl | exact .inr rfl) (pd_bin o_add (pd 1) (pd_lst (pda_cons (pd_exvK x_InvalidStep hG (hr.mono (by omega)) rfl (pd 0)) (pda_cons (pd_exvK x_InvalidSide hG (hr.mono (by omega)) rfl (pd 0)) (pda_cons (pd_exvK x_InvalidCode hG (hr.mono (by omega)) rfl (pd 0)) pda_nil)))))) (pss_dcons (psd_set (i := 1) sc_by_name.nd rfl (by first | exact .inl rfl | exact .inr rfl) (pd_bin o_add (pd 1) (pd_lst (pda_cons (pd_exvK x_InvalidPick hG (hr.mono (by omega)) rfl (pd 0)) (pda_cons (pd_exvK x_InvalidDeed hG (hr.mono (by omega)) rfl (pd 0)) (pda_cons (pd_exvK x_InvalidBook hG (hr.mono (by omega)) rfl (pd 0)) pda_nil)))))) (pss_dcons (psd_set (i := 1) sc_by_name.nd rfl (by first | exact .inl rfl | exact .inr rfl) (pd_bin o_add (pd 1) (pd_lst (pda_cons (pd_exvK x_InvalidWindow hG (hr.mono (by omega)) rfl (pd 0)) (pda_cons (pd_exvK x_TooMany hG (hr.mono (by omega)) rfl (pd 0)) (pda_cons (pd_exvK x_InvalidSegments hG (hr.mono (by omega)) rfl (pd 0)) pda_nil)))))) (pss_dcons (psd_set (i := 1) sc_by_name.nd rfl (by first | exact .inl rfl | exact .inr rfl) (pd_bin o_add (pd 1) (pd_lst (pda_cons (pd_exvK x_InvalidPoints hG (hr.mono (by omega)) rfl (pd 0)) (pda_cons (pd_exvK x_InvalidLines hG (hr.mono (by omega)) rfl (pd 0)) (pda_cons (pd_exvK x_BadText hG (hr.mono (by omega)) rfl (pd 0)) pda_nil)))))) (pss_done (psd_ret (pd_bin o_add (pd 1) (pd_lst (pda_cons (pd_exv0 PySem.F.excBase_ValueError T.e_NothingToUndo T.k_NothingToUndo T.m_NothingToUndo rfl) (pda_cons (pd_exv0 PySem.F.excBase_ValueError T.e_NothingToRedo T.k_NothingToRedo T.m_NothingToRedo rfl) (pda_cons (pd_exv0 PySem.F.excBase_ValueError T.e_BendError T.k_BendError T.m_BendError rfl) pda_nil)))))))))))))))
theorem t_under {k : Nat} (hk : 0 ≤ k) (T : Tx K mg base)  (f : Addr) (cd : Value) (A : Around) (outer : List Env) (s : Shared) (H : Hp) (E : XK) (hG : A.guards = some []) (hr : Room k (A.deeper (envOfC "_law_under" (defScope s_under) s.heap.objs.size f cd))) :
    PDSs (cxD P w K mg base N_under "_law_under" (defScope s_under) f cd A outer s H E) (defBody s_under) b_under :=
  (pss_dcons (psd_set (i := 1) sc_under.nd rfl (by first | exact .inl rfl | exact .inr rfl) (pd_lstV (pda_cons (pd_isx (tab := tabL 0) rfl T.n_isinstance (pe_glob (v := .ref 44) rfl T.m_InvalidPoint rfl) (.own _) T.t_InvalidPoint (pd 0) bt_isinstance) (pda_cons (pd_isx (tab := tabL 1) rfl T.n_isinstance (pe_glob (v := .ref 63) rfl T.m_InvalidSegment rfl) (.own _) T.t_InvalidSegment (pd 0) bt_isinstance) (pda_cons (pd_isx (tab := tabL 2) rfl T.n_isinstance (pe_glob (v := .ref 82) rfl T.m_InvalidFigure rfl) (.own _) T.t_InvalidFigure (pd 0) bt_isinstance) pda_nil))))) (pss_dcons (psd_set (i := 1) sc_under.nd rfl (by first | exact .inl rfl | exact .inr rfl) (pd_bin o_add (pd 1) (pd_lstV (pda_cons (pd_isx (tab := tabL 3) rfl T.n_isinstance (pe_glob (v := .ref 101) rfl T.m_InvalidScene rfl) (.own _) T.t_InvalidScene (pd 0) bt_isinstance) (pda_cons (pd_isx (tab := tabL 4) rfl T.n_isinstance (pe_glob (v := .ref 120) rfl T.m_InvalidCell rfl) (.own _) T.t_InvalidCell (pd 0) bt_isinstance) (pda_cons (pd_isx (tab := tabL 5) rfl T.n_isinstance (pe_glob (v := .ref 139) rfl T.m_InvalidName rfl) (.own _) T.t_InvalidName (pd 0) bt_isinstance) pda_nil)))))) (pss_dcons (psd_set (i := 1) sc_under.nd rfl (by first | exact .inl rfl | exact .inr rfl) (pd_bin o_add (pd 1) (pd_lstV (pda_cons (pd_isx (tab := tabL 6) rfl T.n_isinstance (pe_glob (v := .ref 158) rfl T.m_InvalidIndex rfl) (.own _) T.t_InvalidIndex (pd 0) bt_isinstance) (pda_cons (pd_isx (tab := tabL 7) rfl T.n_isinstance (pe_glob (v := .ref 177) rfl T.m_InvalidMap rfl) (.own _) T.t_InvalidMap (pd 0) bt_isinstance) (pda_cons (pd_isx (tab := tabL 8) rfl T.n_isinstance (pe_glob (v := .ref 196) rfl T.m_InvalidDart rfl) (.own _) T.t_InvalidDart (pd 0) bt_isinstance) pda_nil)))))) (pss_dcons (psd_set (i := 1) sc_under.nd rfl (by first | exact .inl rfl | exact .inr rfl) (pd_bin o_add (pd 1) (pd_lstV (pda_cons (pd_isx (tab := tabL 9) rfl T.n_isinstance (pe_glob (v := .ref 215) rfl T.m_InvalidSpecial rfl) (.own _) T.t_InvalidSpecial (pd 0) bt_isinstance) (pda_cons (pd_isx (tab := tabL 10) rfl T.n_isinstance (pe_glob (v := .ref 234) rfl T.m_InvalidFace rfl) (.own _) T.t_InvalidFace (pd 0) bt_isinstance) (pda_cons (pd_isx (tab := tabL 11) rfl T.n_isinstance (pe_glob (v := .ref 253) rfl T.m_InvalidPart rfl) (.own _) T.t_InvalidPart (pd 0) bt_isinstance) pda_nil)))))) (pss_dcons (psd_set (i := 1) sc_under.nd rfl (by first | exact .inl rfl | exact .inr rfl) (pd_bin o_add (pd 1) (pd_lstV (pda_cons (pd_isx (tab := tabL 12) rfl T.n_isinstance (pe_glob (v := .ref 272) rfl T.m_InvalidStep rfl) (.own _) T.t_InvalidStep (pd 0) bt_isinstance) (pda_cons (pd_isx (tab := tabL 13) rfl T.n_isinstance (pe_glob (v := .ref 291) rfl T.m_InvalidSide rfl) (.own _) T.t_InvalidSide (pd 0) bt_isinstance) (pda_cons (pd_isx (tab := tabL 14) rfl T.n_isinstance (pe_glob (v := .ref 310) rfl T.m_InvalidCode rfl) (.own _) T.t_InvalidCode (pd 0) bt_isinstance) pda_nil)))))) (pss_dcons (psd_set (i := 1) sc_under.nd rfl (by first | exact .inl rfl | exact .inr rfl) (pd_bin o_add (pd 1) (pd_lstV (pda_cons (pd_isx (tab := tabL 15) rfl T.n_isinstance (pe_glob (v := .ref 329) rfl T.m_InvalidPick rfl) (.own _) T.t_InvalidPick (pd 0) bt_isinstance) (pda_cons (pd_isx (tab := tabL 16) rfl T.n_isinstance (pe_glob (v := .ref 348) rfl T.m_InvalidDeed rfl) (.own _) T.t_InvalidDeed (pd 0) bt_isinstance) (pda_cons (pd_isx (tab := tabL 17) rfl T.n_isinstance (pe_glob (v := .ref 367) rfl T.m_InvalidBook rfl) (.own _) T.t_InvalidBook (pd 0) bt_isinstance) pda_nil)))))) (pss_dcons (psd_set (i := 1) sc_under.nd rfl (by first | exact .inl rfl | exact .inr rfl) (pd_bin o_add (pd 1) (pd_lstV (pda_cons (pd_isx (tab := tabL 18) rfl T.n_isinstance (pe_glob (v := .ref 386) rfl T.m_InvalidWindow rfl) (.own _) T.t_InvalidWindow (pd 0) bt_isinstance) (pda_cons (pd_isx (tab := tabL 19) rfl T.n_isinstance (pe_glob (v := .ref 405) rfl T.m_TooMany rfl) (.own _) T.t_TooMany (pd 0) bt_isinstance) (pda_cons (pd_isx (tab := tabL 20) rfl T.n_isinstance (pe_glob (v := .ref 424) rfl T.m_InvalidSegments rfl) (.own _) T.t_InvalidSegments (pd 0) bt_isinstance) pda_nil)))))) (pss_dcons (psd_set (i := 1) sc_under.nd rfl (by first | exact .inl rfl | exact .inr rfl) (pd_bin o_add (pd 1) (pd_lstV (pda_cons (pd_isx (tab := tabL 21) rfl T.n_isinstance (pe_glob (v := .ref 443) rfl T.m_InvalidPoints rfl) (.own _) T.t_InvalidPoints (pd 0) bt_isinstance) (pda_cons (pd_isx (tab := tabL 22) rfl T.n_isinstance (pe_glob (v := .ref 462) rfl T.m_InvalidLines rfl) (.own _) T.t_InvalidLines (pd 0) bt_isinstance) (pda_cons (pd_isx (tab := tabL 23) rfl T.n_isinstance (pe_glob (v := .ref 481) rfl T.m_BadText rfl) (.own _) T.t_BadText (pd 0) bt_isinstance) pda_nil)))))) (pss_dcons (psd_set (i := 1) sc_under.nd rfl (by first | exact .inl rfl | exact .inr rfl) (pd_bin o_add (pd 1) (pd_lstV (pda_cons (pd_isx (tab := tabL 24) rfl T.n_isinstance (pe_glob (v := .ref 493) rfl T.m_NothingToUndo rfl) (.own _) T.t_NothingToUndo (pd 0) bt_isinstance) (pda_cons (pd_isx (tab := tabL 25) rfl T.n_isinstance (pe_glob (v := .ref 505) rfl T.m_NothingToRedo rfl) (.own _) T.t_NothingToRedo (pd 0) bt_isinstance) (pda_cons (pd_isx (tab := tabL 26) rfl T.n_isinstance (pe_glob (v := .ref 24) rfl T.m_BendError rfl) (.own _) T.t_BendError (pd 0) bt_isinstance) pda_nil)))))) (pss_dcons (psd_set (i := 1) sc_under.nd rfl (by first | exact .inl rfl | exact .inr rfl) (pd_bin o_add (pd 1) (pd_lstV (pda_cons (pd_isx (tab := tabL 27) rfl T.n_isinstance (pe_bltn (v := .ty "ValueError") rfl T.n_ValueError (by decide +kernel) rfl) (.ty _) T.t_ValueError (pd 0) bt_isinstance) (pda_cons (pd_isx (tab := tabL 28) rfl T.n_isinstance (pe_bltn (v := .ty "Exception") rfl T.n_Exception (by decide +kernel) rfl) (.ty _) T.t_Exception (pd 0) bt_isinstance) (pda_cons (pd_isx (tab := tabL 29) rfl T.n_isinstance (pe_bltn (v := .ty "LookupError") rfl T.n_LookupError (by decide +kernel) rfl) (.ty _) T.t_LookupError (pd 0) bt_isinstance) pda_nil)))))) (pss_dcons (psd_set (i := 1) sc_under.nd rfl (by first | exact .inl rfl | exact .inr rfl) (pd_bin o_add (pd 1) (pd_lstV (pda_cons (pd_isx (tab := tabL 30) rfl T.n_isinstance (pe_bltn (v := .ty "TypeError") rfl T.n_TypeError (by decide +kernel) rfl) (.ty _) T.t_TypeError (pd 0) bt_isinstance) (pda_cons (pd_isx (tab := tabL 31) rfl T.n_isinstance (pe_bltn (v := .ty "ArithmeticError") rfl T.n_ArithmeticError (by decide +kernel) rfl) (.ty _) T.t_ArithmeticError (pd 0) bt_isinstance) (pda_cons (pd_isx (tab := tabL 32) rfl T.n_isinstance (pe_bltn (v := .ty "RuntimeError") rfl T.n_RuntimeError (by decide +kernel) rfl) (.ty _) T.t_RuntimeError (pd 0) bt_isinstance) pda_nil)))))) (pss_done (psd_ret (pd_bin o_add (pd 1) (pd_lstV (pda_cons (pd_isx (tab := tabL 33) rfl T.n_isinstance (pe_bltn (v := .ty "AttributeError") rfl T.n_AttributeError (by decide +kernel) rfl) (.ty _) T.t_AttributeError (pd 0) bt_isinstance) pda_nil))))))))))))))))
theorem t_is_made {k : Nat} (hk : 1 ≤ k) (T : Tx K mg base) (c_under : Can P w K mg base 1 "_law_under" s_under ["_law_error"] sp_under) (f : Addr) (cd : Value) (A : Around) (outer : List Env) (s : Shared) (H : Hp) (E : XK) (hG : A.guards = some []) (hr : Room k (A.deeper (envOfC "_law_is_made" (defScope s_is_made) s.heap.objs.size f cd))) :
    PDSs (cxD P w K mg base N_is_made "_law_is_made" (defScope s_is_made) f cd A outer s H E) (defBody s_is_made) b_is_made :=
  (pss_dcons (psd_if (pdt_cmp (o_ne hr.units) (pd_callB (c_reprD hG (u65 hr) T.sb) rfl T.n_repr bt_repr (pda_cons (pd_call c_under hG (hr.mono (by omega)) rfl (pda_cons (pd 2) pda_nil)) pda_nil)) (pd_callB (c_reprD hG (u65 hr) T.sb) rfl T.n_repr bt_repr (pda_cons (pd_lcM hm_val rfl sc_is_made.nd (pdi_rng1 rfl T.n_range (pda_cons pd_int pda_nil)) (blkOk_by (N := N_is_made) (sc := defScope s_is_made) (by decide +kernel)) (fun _ _ _ _ _ => pg_name (i := 3) sc_is_made.nd rfl (Or.inl rfl)) (fun _ _ _ _ _ => pdts_nil) (fun _ _ _ _ _ => (pd_or (pd_cmp (o_eq hr.units) (pd 3) (pd 0) (nomark _)) (pd_one (pd_chain o_lt o_lt pd_int (pd 3) pd_int))))) pda_nil)) (nomark _)) (pss_done (psd_ret pd_bl)) pss_dnil) (pss_dcons (psd_if (pdt_cmp o_lt (pd 0) pd_int (nomark _)) (pss_done (psd_ret (pd_cmp (o_eq hr.units) (pd_callB (c_reprD hG (u65 hr) T.sb) rfl T.n_repr bt_repr (pda_cons (pd_xf T.f_given (pd 2)) pda_nil)) (pd_callB (c_reprD hG (u65 hr) T.sb) rfl T.n_repr bt_repr (pda_cons (pd 1) pda_nil)) (nomark _)))) pss_dnil) (pss_dcons (psd_if (pdt_cmp o_lt (pd 0) pd_int (nomark _)) (pss_done (psd_ret (pd_cmp (o_eq hr.units) (pd_callB (c_reprD hG (u65 hr) T.sb) rfl T.n_repr bt_repr (pda_cons (pd_xf T.f_index (pd 2)) pda_nil)) (pd_callB (c_reprD hG (u65 hr) T.sb) rfl T.n_repr bt_repr (pda_cons (pd 1) pda_nil)) (nomark _)))) pss_dnil) (pss_done (psd_ret (pd_or (pd_cmp o_gt (pd 0) pd_int (nomark _)) (pd_one (pd_cmp (o_eq hr.units) (pd_callB (c_reprD hG (u65 hr) T.sb) rfl T.n_repr bt_repr (pda_cons (pd_xf T.f_spot (pd 2)) pda_nil)) (pd_callB (c_reprD hG (u65 hr) T.sb) rfl T.n_repr bt_repr (pda_cons (pd 1) pda_nil)) (nomark _)))))))))
theorem t_right {k : Nat} (hk : 45 ≤ k) (T : Tx K mg base) (c_spoilt : Can P w K mg base 45 "_law_spoilt" s_spoilt ["_law_spring_here", "_law_thing"] sp_spoilt) (c_odd : Can P w K mg base 3 "_law_odd" s_odd ["_law_spring_here"] sp_odd) (c_draw : Can P w K mg base 1 "_law_draw" s_draw ["_law_spring_here", "_law_many"] sp_draw) (c_by_name : Can P w K mg base 3 "_law_by_name" s_by_name ["_law_thing"] sp_by_name) (c_by_position : Can P w K mg base 3 "_law_by_position" s_by_position ["_law_thing"] sp_by_position) (c_is_made : Can P w K mg base 2 "_law_is_made" s_is_made ["_law_at", "_law_thing", "_law_error"] sp_is_made) (f : Addr) (cd : Value) (A : Around) (outer : List Env) (s : Shared) (H : Hp) (E : XK) (hG : A.guards = some []) (hr : Room k (A.deeper (envOfC "_law_right" (defScope s_right) s.heap.objs.size f cd))) :
    PDSs (cxD P w K mg base N_right "_law_right" (defScope s_right) f cd A outer s H E) (defBody s_right) b_right :=
  (pss_dcons (psd_set (i := 1) sc_right.nd rfl (by first | exact .inl rfl | exact .inr rfl) (pd_call c_spoilt hG (hr.mono (by omega)) rfl (pda_cons (pd 0) (pda_cons (pd_tup (pda_cons (pd_call c_odd hG (hr.mono (by omega)) rfl (pda_cons (pd 0) pda_nil)) (pda_cons (pd_call c_odd hG (hr.mono (by omega)) rfl (pda_cons (pd 0) pda_nil)) pda_nil))) pda_nil)))) (pss_dcons (psd_set (i := 2) sc_right.nd rfl (by first | exact .inl rfl | exact .inr rfl) (pd_call c_spoilt hG (hr.mono (by omega)) rfl (pda_cons (pd 0) (pda_cons (pd_tup (pda_cons (pd 1) (pda_cons (pd_call c_draw hG (hr.mono (by omega)) rfl (pda_cons (pd 0) (pda_cons pd_int pda_nil))) pda_nil))) pda_nil)))) (pss_dcons (psd_par (i := 3) (j := 4) rfl sc_right.nd rfl rfl (by decide) rfl rfl (pda_cons (pd_call c_by_position hG (hr.mono (by omega)) rfl (pda_cons (pd 1) pda_nil)) (pda_cons (pd_call c_by_name hG (hr.mono (by omega)) rfl (pda_cons (pd 2) pda_nil)) pda_nil)) (by rfl)) (pss_dcons (psd_if (pdt_w (pdw_or (pdt_cmp (o_ne hr.units) (pd_callB c_len rfl T.n_len bt_len (pda_cons (pd 3) pda_nil)) pd_int (nomark _)) (pdw_or1 (pdt_cmp (o_ne hr.units) (pd_callB c_len rfl T.n_len bt_len (pda_cons (pd 4) pda_nil)) pd_int (nomark _))))) (pss_done (psd_ret pd_bl)) pss_dnil) (pss_dcons (psd_if (pdt_not (pdt_val (pd_callB (c_all rfl) rfl T.n_all bt_all (pda_cons (pd_lcX hm_val (Pat.tup [(Pat.nm 5), (Pat.nm 6)]) [("_law_at", 5), ("_law_error", 6)] (by intro i; simp [slots, slotsAll]) rfl sc_right.nd (pdi_enumO rfl T.n_enumerate (pda_cons (pd 3) pda_nil)) (blkOk_by (N := N_right) (sc := defScope s_right) (by decide +kernel)) (fun _ _ _ _ _ => (pg_tup (n := 2) rfl (pgs_cons (pg_name (i := 5) sc_right.nd rfl (Or.inl rfl)) (pgs_cons (pg_name (i := 6) sc_right.nd rfl (Or.inl rfl)) pgs_nil)))) (fun _ _ _ _ _ => pdts_nil) (fun _ _ _ _ _ => (pd_call c_is_made hG (hr.mono (by omega)) rfl (pda_cons (pd 5) (pda_cons (pd 1) (pda_cons (pd 6) pda_nil)))))) pda_nil)))) (pss_done (psd_ret pd_bl)) pss_dnil) (pss_done (psd_ret (pd_callB (c_all rfl) rfl T.n_all bt_all (pda_cons (pd_lcX hm_val (Pat.tup [(Pat.nm 5), (Pat.nm 6)]) [("_law_at", 5), ("_law_error", 6)] (by intro i; simp [slots, slotsAll]) rfl sc_right.nd (pdi_enumO rfl T.n_enumerate (pda_cons (pd 4) pda_nil)) (blkOk_by (N := N_right) (sc := defScope s_right) (by decide +kernel)) (fun _ _ _ _ _ => (pg_tup (n := 2) rfl (pgs_cons (pg_name (i := 5) sc_right.nd rfl (Or.inl rfl)) (pgs_cons (pg_name (i := 6) sc_right.nd rfl (Or.inl rfl)) pgs_nil)))) (fun _ _ _ _ _ => pdts_nil) (fun _ _ _ _ _ => (pd_call c_is_made hG (hr.mono (by omega)) rfl (pda_cons (pd 5) (pda_cons (pd 2) (pda_cons (pd 6) pda_nil)))))) pda_nil)))))))))
theorem t_law {k : Nat} (hk : 46 ≤ k) (T : Tx K mg base) (c_right : Can P w K mg base 46 "_law_right" s_right ["_law_spring_here"] sp_right) (c_spring : Can P w K mg base 1 "_law_spring" s_spring ["_law_script", "_law_turn"] sp_spring) (f : Addr) (cd : Value) (A : Around) (outer : List Env) (s : Shared) (H : Hp) (E : XK) (hG : A.guards = some []) (hr : Room k (A.deeper (envOfC "law" (defScope s_law) s.heap.objs.size f cd))) :
    PDSs (cxD P w K mg base N_law "law" (defScope s_law) f cd A outer s H E) (defBody s_law) b_law :=
  (pss_done (psd_ret (pd_callB (c_all rfl) rfl T.n_all bt_all (pda_cons (pd_lcM hm_val rfl sc_law.nd (pdi_rng1 rfl T.n_range (pda_cons (pd_callB (c_max rfl) rfl T.n_max bt_max (pda_cons pd_int (pda_cons (pd_callB (c_min rfl) rfl T.n_min bt_min (pda_cons (pd_callB c_len rfl T.n_len bt_len (pda_cons (pd 0) pda_nil)) (pda_cons pd_int pda_nil))) pda_nil))) pda_nil)) (blkOk_by (N := N_law) (sc := defScope s_law) (by decide +kernel)) (fun _ _ _ _ _ => pg_name (i := 1) sc_law.nd rfl (Or.inl rfl)) (fun _ _ _ _ _ => pdts_nil) (fun _ _ _ _ _ => (pd_call c_right hG (hr.mono (by omega)) rfl (pda_cons (pd_call c_spring hG (hr.mono (by omega)) rfl (pda_cons (pd 0) (pda_cons (pd 1) pda_nil))) pda_nil)))) pda_nil))))
end
end K01
namespace K01
open PySem PySem.Spec PyProof.Rows L2 DL LB
/-! ### values known to the sign -/
def VX (te : TEd) (e : Ed) (x : PyData) : Prop := ∀ st Q, Q (.d x) st → te e st Q
def VXs (t : TAd) (e : Ed) (xs : List PyData) : Prop := ∀ st Q, Q (xs.map D.d) st → t e st Q
theorem vx_c {x : PyData} {e : Ed} : VX (dC x) e x := fun _ _ q => q
theorem vx_dict {ps : List (PyData × PyData)} {e : Ed} : VX (dDict ps) e (.dict ps) := fun _ _ q => q
theorem vx_var {i : Nat} {x : PyData} {e : Ed} (h : e[i]? = some (some (.d x))) : VX (dVar i) e x := fun _ _ q => ⟨_, h, q⟩
theorem vx_neg {i : Int} {e : Ed} : VX (dNeg (dC (.int i))) e (.int (-i)) := fun _ _ q => q
theorem vx_pow {i j : Int} {e : Ed} (h : CPow i j) : VX (dBin rPowD (dC (.int i)) (dC (.int j))) e (.int (i ^ j.toNat)) := fun _ _ q => ⟨h, q⟩
theorem vxs_nil {e : Ed} : VXs dNil e [] := fun _ _ q => q
theorem vxs_cons {te : TEd} {t : TAd} {e : Ed} {x : PyData} {xs : List PyData} (h : VX te e x) (r : VXs t e xs) : VXs (dCons te t) e (x :: xs) := fun _ _ q => h _ _ (r _ _ q)
theorem vx_tup {t : TAd} {e : Ed} {xs : List PyData} (r : VXs t e xs) (hn : xs.length ≤ 1000) : VX (dTup t) e (.tuple xs) := fun st Q q => r _ _ (by
  show match pures (xs.map D.d) with
    | some ys => (xs.map D.d).length ≤ sizeLine ∧ Q (.d (.tuple ys)) st
    | none => False
  rw [pures_map]
  exact ⟨by rw [List.length_map]; exact Nat.le_trans hn (by decide), q⟩)
theorem vx_lst {t : TAd} {e : Ed} {xs : List PyData} (r : VXs t e xs) (hn : xs.length ≤ 1000) : VX (dLstV t) e (.list xs) := fun st Q q => r _ _ (by
  show match pures (xs.map D.d) with
    | some ys => (xs.map D.d).length ≤ sizeLine ∧ Q (.d (.list ys)) st
    | none => False
  rw [pures_map]
  exact ⟨by rw [List.length_map]; exact Nat.le_trans hn (by decide), q⟩)
def rB (c W D : Nat) (x : PyData) : Bool := okD c x && (decide (x.bulk ≤ W) && decide (x.depth ≤ D))
theorem rB_ok {c W D : Nat} {x : PyData} (h : rB c W D x = true) : R c W D x := by
  unfold rB at h
  simp only [Bool.and_eq_true, decide_eq_true_eq] at h
  exact ⟨h.1, h.2.1, h.2.2⟩
theorem odd_then {te : TEd} {e : Ed} {p : Addr} {st : Sto} {Q : Kd} {n : Nat} {ys : List D} (hh : ∃ xs, VX te e (.list xs) ∧ xs.all (rB 84 60 6) = true ∧ 0 < xs.length ∧ xs.length < 1000) (hst : st p = some ys) (hy : SprL ys n) (hn : n + 1 < 2 ^ 40)
    (k : ∀ d xs', (∃ x, d = D.d x ∧ R 84 60 6 x) → SprL xs' (n + 1) → Q d (put st p xs')) (F : TSd) (E : EndsD)
    (hF : ∀ e' xs, e' = e.set 4 (some (.d (.list xs))) → (∀ (q : sp_one_of [.own p, .d (.list xs)] st (frz E.rt)), F E e' st)) (hE : E.rt = Q) : dAsg te (hName 4) { nx := F E, rt := E.rt } e st := by
  obtain ⟨xs, h, hall, h0, h1⟩ := hh
  refine h _ _ (.inl (hF _ xs rfl ⟨h0, h1, n, ys, hst, hy, hn, fun d xs' ⟨x, ex, hx⟩ hs => .inl ?_⟩))
  rw [hE]
  exact k d xs' ⟨x, ex, rB_ok (List.all_eq_true.mp hall x hx)⟩ hs
theorem r_odd : ∀ ds st Q, sp_odd ds st Q → b_odd { nx := fun _ s' => Q (.d .none) s', rt := Q } (startD N_odd ds) st := by
  intro ds st Q h
  unfold sp_odd at h
  split at h
  · rename_i p
    obtain ⟨n, ys, hst, hy, hn, k⟩ := h
    refine ⟨by decide, by decide, by decide, by decide, by decide, by decide, by decide, by decide, by decide, by decide, .inl ⟨rfl, rfl, ?_⟩⟩
    dsimp only
    simp only [↓dSeq]
    refine odd_then (p := p) (Q := Q) ?v hst hy hn k b_odd_3 { nx := fun _ s' => Q (.d .none) s', rt := Q } (fun e' xs ee q => ?_) rfl
    case v =>
      refine' ⟨_, ?x, ?a, ?b, ?c⟩
      case x =>
       repeat' (first | exact vxs_nil | refine' vxs_cons ?_ ?_ | exact vx_c | exact vx_dict | exact vx_neg | exact vx_var rfl | refine' vx_tup ?_ ?_ | refine' vx_lst ?_ ?_ | exact vx_pow ⟨by decide, by decide, by decide⟩ | decide)
      case a => decide +kernel
      case b => decide
      case c => decide
    · subst ee
      exact ⟨_, rfl, _, rfl, q⟩
  · exact h.elim
theorem addX_i {i j : Int} {st : Sto} {Q : Kd} : rAddX (.d (.int i)) (.d (.int j)) st Q = Q (.d (.int (i + j))) st := rfl
theorem addX_b {b : Bool} {j : Int} {st : Sto} {Q : Kd} : rAddX (.d (.bool b)) (.d (.int j)) st Q = Q (.d (.int (b2 b + j))) st := rfl
theorem subX_i {i j : Int} {st : Sto} {Q : Kd} : rSubX (.d (.int i)) (.d (.int j)) st Q = (True ∧ Q (.d (.int (i - j))) st) := rfl
theorem subX_b {b : Bool} {j : Int} {st : Sto} {Q : Kd} : rSubX (.d (.bool b)) (.d (.int j)) st Q = Q (.d (.int (b2 b - j))) st := rfl
theorem subX_c {b : Bool} {j : Int} {st : Sto} {Q : Kd} : rSubX (.d (.int j)) (.d (.bool b)) st Q = Q (.d (.int (j - b2 b))) st := rfl
theorem mulB_i {i j : Int} {st : Sto} {Q : Kd} : rMulB (.d (.int i)) (.d (.int j)) st Q = (CMulW i j ∧ Q (.d (.int (i * j))) st) := rfl
theorem mulB_b {b : Bool} {j : Int} {st : Sto} {Q : Kd} : rMulB (.d (.int j)) (.d (.bool b)) st Q = Q (.d (.int (j * b2 b))) st := rfl
theorem strX_i {i : Int} {st : Sto} {Q : Kd} : cStrX [.d (.int i)] st Q = (i.natAbs.log2 < 1920 ∧ Q (.d (.str (toString i))) st) := rfl
theorem strX_b {b : Bool} {st : Sto} {Q : Kd} : cStrX [.d (.bool b)] st Q = Q (.d (.str (if b = true then "True" else "False" : String))) st := rfl
theorem neX_t {xs : List PyData} {st : Sto} {Q : Kd} : rNeX (.d (.tuple xs)) (.d (.tuple [])) st Q = Q (.d (.bool (!xs.isEmpty))) st := rfl
theorem eqV_b {b : Bool} {j : Int} {st : Sto} {Q : Kd} : rEqV (.d (.bool b)) (.d (.int j)) st Q = (SeqAt.shaped (.bool b) = true ∧ SeqAt.shaped (.int j) = true ∧ Q (.d (.bool (PyData.eqv (.bool b) (.int j)))) st) := rfl
theorem len_bulk : ∀ xs : List PyData, xs.length ≤ PyData.bulkAll xs
  | [] => by simp [PyData.bulkAll]
  | x :: r => by
    have := len_bulk r
    simp only [PyData.bulkAll, List.length_cons]
    omega
theorem ok_int {c : Nat} {i : Int} (h : i.natAbs < 2 ^ c) : okD c (.int i) = true := by
  simp only [okD, decide_eq_true_eq]
  exact h
end K01
local macro_rules | `(tactic| walk_at "val") => `(tactic| repeat' (first | exact DL.vls_nil | apply DL.vls_cons | exact DL.val_c | exact DL.val_dict | exact DL.val_neg | exact DL.val_var rfl | apply DL.val_tup | apply DL.val_lst | apply DL.val_lstV | exact DL.val_pow ⟨by decide, by decide, by decide⟩ | decide))
local macro_rules | `(tactic| walk_at "st") => `(tactic| simp only [DL.startD, List.map_cons, List.map_nil, List.length_cons, List.length_nil, Nat.reduceAdd, Nat.reduceSub, List.replicate_succ, List.replicate_zero, List.cons_append, List.nil_append, List.append_nil, Nat.sub_self, Nat.zero_add])
local macro_rules | `(tactic| walk_at "go") => `(tactic| simp only [K01.addX_i, K01.addX_b, K01.subX_i, K01.subX_b, K01.subX_c, K01.mulB_i, K01.mulB_b, K01.strX_i, K01.strX_b, K01.neX_t, K01.eqV_b, ↓DL.dSeq, ↓DL.dNext, ↓DL.dAsg, ↓DL.dRet, ↓DL.dRetN, ↓DL.dIfS, ↓DL.dDrop, ↓DL.dBin, ↓DL.dCons, ↓DL.dNil, ↓DL.dTup, ↓DL.dC, ↓DL.dNeg, ↓DL.dAnd, ↓DL.dOr, ↓DL.dNot, ↓DL.dIf, ↓DL.dTst, ↓DL.asB, ↓DL.dChain, ↓DL.dAndT, ↓DL.dOrT, ↓DL.dNotT, ↓DL.dCall, ↓DL.dFn0, ↓DL.dFnK, ↓DL.dIs, ↓DL.dSl, ↓DL.dNoP, ↓DL.dPart, ↓DL.dRev, ↓DL.dLst, ↓DL.dLstV, ↓DL.cListV, ↓DL.dDict, ↓DL.dPar, ↓DL.dPar3, ↓DL.hTup, ↓DL.hCons, ↓DL.nil_go, ↓DL.hName, ↓DL.hSub, ↓DL.rI2, ↓DL.rSubD, ↓DL.rMulD, ↓DL.rMulX, ↓DL.rDivF, ↓DL.rDivD, ↓DL.rModD, ↓DL.rPowD, ↓DL.rLtD, ↓DL.rLeD, ↓DL.rGtD, ↓DL.rGeD, ↓DL.rAddD, ↓DL.ixt_0, ↓DL.ixt_1, ↓DL.ixt_2, ↓DL.ixt_3, ↓DL.ixt_4, ↓DL.ixl_0, ↓DL.ixl_1, ↓DL.ixl_2, ↓DL.ixl_3, ↓DL.ixl_4, ↓DL.rEqV, ↓DL.rNeV, ↓DL.rSlD, ↓DL.cLen, ↓DL.cAbs, ↓DL.cInt, ↓DL.cStrI, ↓DL.cDivmod, ↓DL.cMin, ↓DL.cMax, ↓DL.cGcd, ↓DL.cLcm, ↓DL.cAll, ↓DL.cRepr, ↓DL.cList, ↓DL.cTuple, ↓DL.rC1, ↓DL.rC2, ↓DL.dNever, ↓DL.dIter, ↓DL.dRng1, ↓DL.dRng2, ↓DL.dYes,
  ↓DL.frz_d, ↓DL.var_zero, ↓DL.var_succ, ↓DL.var_set, ↓DL.var_ne, DL.own_some, DL.no_own2, DL.eqv_int, DL.sh_int, DL.sh_bool, DL.kit_int, DL.kit_bool, DL.kit_tuple, DL.kit_str, DL.is_int, DL.is_bool, DL.is_tuple, DL.is_str, DL.pures_nil, DL.pures_cons, Option.map_some, List.length_cons, List.length_nil, List.length_set, List.map_cons, List.map_nil, DL.pick, List.filterMap_cons, List.filterMap_nil,
  true_and, and_true, ite_true, ite_false, if_true, if_false, reduceIte, reduceCtorEq, ne_eq, not_false_eq_true, Nat.reduceAdd, Nat.reduceLT, Nat.reduceEqDiff, decide_eq_true_eq, Bool.not_true, Bool.not_false, Bool.false_eq_true, eq_self])
local macro_rules | `(tactic| walk_at "gk") => `(tactic| simp only [↓LB.sp_divisor, ↓LB.sp_part, ↓LB.sp_place, ↓LB.sp_is_whole, ↓LB.sp_l_is_whole, ↓LB.sp_is_row, ↓LB.sp_is_lot, ↓LB.sp_is_fraction, ↓LB.sp_l_is_fraction, ↓LB.sp_is_place, ↓LB.sp_is_point, ↓LB.sp_is_told, ↓LB.sp_told, ↓LB.sp_own, ↓LB.sp_side, ↓LB.sp_l_is_less, ↓LB.sp_l_lies_on, ↓LB.sp_l_sign, ↓LB.sp_sign, ↓LB.sp_scaled, ↓LB.sp_crossed, ↓LB.sp_along, ↓LB.sp_is_less, ↓DL.dSeq, ↓DL.dNext, ↓DL.dAsg, ↓DL.dRet, ↓DL.dRetN, ↓DL.dIfS, ↓DL.dDrop, ↓DL.dBin, ↓DL.dCons, ↓DL.dNil, ↓DL.dTup, ↓DL.dC, ↓DL.dNeg, ↓DL.dAnd, ↓DL.dOr, ↓DL.dNot, ↓DL.dIf, ↓DL.dTst, ↓DL.asB, ↓DL.dChain, ↓DL.dAndT, ↓DL.dOrT, ↓DL.dNotT, ↓DL.dCall, ↓DL.dFn0, ↓DL.dFnK, ↓DL.dIs, ↓DL.dSl, ↓DL.dNoP, ↓DL.dPart, ↓DL.dRev, ↓DL.dLst, ↓DL.dLstV, ↓DL.cListV, ↓DL.dDict, ↓DL.dPar, ↓DL.dPar3, ↓DL.hTup, ↓DL.hCons, ↓DL.nil_go, ↓DL.hName, ↓DL.hSub, ↓DL.rI2, ↓DL.rSubD, ↓DL.rMulD, ↓DL.rMulX, ↓DL.rDivF, ↓DL.rDivD, ↓DL.rModD, ↓DL.rPowD, ↓DL.rLtD, ↓DL.rLeD, ↓DL.rGtD, ↓DL.rGeD, ↓DL.rAddD, ↓DL.ixt_0, ↓DL.ixt_1, ↓DL.ixt_2, ↓DL.ixt_3, ↓DL.ixt_4, ↓DL.ixl_0, ↓DL.ixl_1, ↓DL.ixl_2, ↓DL.ixl_3, ↓DL.ixl_4, ↓DL.rEqV, ↓DL.rNeV, ↓DL.rSlD, ↓DL.cLen, ↓DL.cAbs, ↓DL.cInt, ↓DL.cStrI, ↓DL.cDivmod, ↓DL.cMin, ↓DL.cMax, ↓DL.cGcd, ↓DL.cLcm, ↓DL.cAll, ↓DL.cRepr, ↓DL.cList, ↓DL.cTuple, ↓DL.rC1, ↓DL.rC2, ↓DL.dNever, ↓DL.dIter, ↓DL.dRng1, ↓DL.dRng2, ↓DL.dYes,
  ↓DL.frz_d, ↓DL.var_zero, ↓DL.var_succ, ↓DL.var_set, ↓DL.var_ne, DL.own_some, DL.no_own2, DL.eqv_int, DL.sh_int, DL.sh_bool, DL.kit_int, DL.kit_bool, DL.kit_tuple, DL.kit_str, DL.is_int, DL.is_bool, DL.is_tuple, DL.is_str, DL.pures_nil, DL.pures_cons, Option.map_some, List.length_cons, List.length_nil, List.length_set, List.map_cons, List.map_nil, DL.pick, List.filterMap_cons, List.filterMap_nil,
  true_and, and_true, ite_true, ite_false, if_true, if_false, reduceIte, reduceCtorEq, ne_eq, not_false_eq_true, Nat.reduceAdd, Nat.reduceLT, Nat.reduceEqDiff, decide_eq_true_eq, Bool.not_true, Bool.not_false, Bool.false_eq_true, eq_self])
namespace K01
open PySem PySem.Spec PyProof.Rows L2 DL LB
theorem cutP_mem {α : Type} {xs : List α} {lo hi : Option Int} {y : α} (h : y ∈ cutP xs lo hi) : y ∈ xs := by
  unfold cutP at h
  exact List.mem_of_mem_drop (List.mem_of_mem_take h)
theorem depth_tup {xs : List PyData} : (PyData.tuple xs).depth = 1 + PyData.depthAll xs := by simp [PyData.depth, Nat.add_comm]
theorem depth_lst {xs : List PyData} : (PyData.list xs).depth = 1 + PyData.depthAll xs := by simp [PyData.depth, Nat.add_comm]
/-- a tuple whose parts come from another one -/
theorem R.sub {c W D : Nat} {xs ys : List PyData} (hx : okD c (.tuple xs) = true) (h : ∀ y ∈ ys, y ∈ xs) (hb : PyData.bulkAll ys ≤ W) (hd : (PyData.tuple xs).depth ≤ D) : R (c + 2) W D (.tuple ys) := by
  refine ⟨okDs_iff.mpr fun y hy => okD.mono (by omega) _ (okDs_iff.mp hx y (h y hy)), hb, ?_⟩
  rw [depth_tup] at hd ⊢
  have := depth_le (n := PyData.depthAll xs) (xs := ys) fun y hy => depth_mem (h y hy)
  omega
theorem cut_take {α : Type} {xs : List α} {i : Int} (h0 : 0 ≤ i) (h1 : i ≤ xs.length) : cutP xs none (some i) = xs.take i.toNat := by
  have h := cut_to (l := xs) (i := i.toNat) (by omega)
  rw [Int.toNat_of_nonneg h0] at h
  exact h
theorem cut_drop {α : Type} {xs : List α} {i : Int} (h0 : 0 ≤ i) (h1 : i ≤ xs.length) : cutP xs (some i) none = xs.drop i.toNat := by
  have h := cut_from (l := xs) (i := i.toNat) (by omega)
  rw [Int.toNat_of_nonneg h0] at h
  exact h
theorem bulk_at : ∀ {xs : List PyData} {i : Nat} (h : i < xs.length), PyData.bulkAll (xs.take i) + (xs[i].bulk + 1) + PyData.bulkAll (xs.drop (i + 1)) = PyData.bulkAll xs
  | x :: r, 0, _ => by simp [PyData.bulkAll]
  | x :: r, i + 1, h => by
    have := bulk_at (xs := r) (i := i) (by simpa using h)
    simp only [List.take_succ_cons, List.drop_succ_cons, List.getElem_cons_succ, PyData.bulkAll]
    omega
theorem str_small {c : Nat} {i : Int} (hc : c ≤ 120) (h : i.natAbs < 2 ^ c) : i.natAbs.log2 < 1920 := log_of (by omega) h
theorem str_ok {c : Nat} (s : String) : okD c (.str (Str.ofString s)) = true := by
  simp only [okD, List.all_eq_true, decide_eq_true_eq]
  intro n hn
  rw [PySem.Str.ofString_eq_toList] at hn
  obtain ⟨ch, _, rfl⟩ := List.mem_map.mp (by simpa using hn : n ∈ s.toList.map Char.toNat)
  have h := ch.valid
  have e : (16 : Nat) ^ 8 = 4294967296 := by decide
  rw [e]
  exact ch.val.toNat_lt
theorem str_bulk {c : Nat} {v : Int} (hc : c ≤ 120) (h : v.natAbs < 2 ^ c) : (PyData.str (Str.ofString (toString v))).bulk ≤ 121 := by
  have := int_show (n := 120) (i := v) (by decide) (Nat.lt_of_lt_of_le h (Nat.pow_le_pow_right (by decide) hc))
  rw [PyData.shown_int] at this
  exact this
theorem r_bent (k : Nat) (self : SpD) (hs : ∀ j, k = j + 1 → ∀ ds st Q, sp_bentK j ds st Q → self ds st Q) : ∀ ds st Q, sp_bentK k ds st Q → b_bent self { nx := fun _ s' => Q (.d .none) s', rt := Q } (startD N_bent ds) st := by
  intro ds st Q h
  obtain ⟨p, x, c, rfl, hc0, hc, hx, hW, hD, hk, n, ys, hst, hy, hn, kk⟩ := h
  show b_bent self _ [some (.own p), some (.d x), none, none] st
  have up : ∀ {y : PyData}, R (c + 2) (3 * x.bulk + 140) (x.depth + 6) y → ∃ z, D.d y = .d z ∧ R (c + 2) (3 * x.bulk + 140) (x.depth + 6) z := fun h => ⟨_, rfl, h⟩
  have rest : ∀ (ys : List D) (st : Sto), st p = some ys → SprL ys (n + 2 * k) → (∀ d xs', (∃ y, d = D.d y ∧ R (c + 2) (3 * x.bulk + 140) (x.depth + 6) y) → SprL xs' (n + (2 * k + 2)) → Q d (put st p xs')) →
      (dSeq (b_bent_2 self) (dSeq (b_bent_3 self) (dSeq (b_bent_4 self) (b_bent_5 self)))) { nx := fun _ s' => Q (.d .none) s', rt := Q } [some (.own p), some (.d x), none, none] st := by
    intro ys st hst hy kk
    refine ⟨_, rfl, by decide, by decide, n + 2 * k, ys, hst, hy, by omega, ?_⟩
    rintro _ zs ⟨i, rfl, i0, i1⟩ hz
    refine .inl ?_
    have kk1 : ∀ y, R (c + 2) (3 * x.bulk + 140) (x.depth + 6) y → Q (.d y) (put st p zs) := fun y hy => kk (.d y) zs (up hy) (hz.mono (by omega))
    have last : (b_bent_5 self) { nx := fun _ s' => Q (.d .none) s', rt := Q } [some (.own p), some (.d x), none, some (I i)] (put st p zs) := by
      refine ⟨_, rfl, n + 2 * k + 1, zs, put_same, hz, by omega, ?_⟩
      rintro _ ws ⟨w, rfl, rw'⟩ hw
      rw [put_put]
      exact .inl (kk _ ws (up (rw'.up (by omega) (by omega) (by omega))) hw)
    have four : (∀ xs, x ≠ .tuple xs) → (dSeq (b_bent_4 self) (b_bent_5 self)) { nx := fun _ s' => Q (.d .none) s', rt := Q } [some (.own p), some (.d x), none, some (I i)] (put st p zs) := by
      intro nt
      cases x with
      | int v =>
        have bv : v.natAbs < 2 ^ c := by simpa only [okD, decide_eq_true_eq] using hx
        have pw : 2 ^ (c + 2) = 4 * 2 ^ c := by rw [Nat.pow_add, Nat.mul_comm]
        have pc : 2 ^ 84 ≤ 2 ^ c := Nat.pow_le_pow_right (by decide) hc0
        have bB : B 1000 v := Nat.lt_of_lt_of_le bv (Nat.pow_le_pow_right (by decide) (by omega))
        have two : (2 : Nat) ^ 84 = 19342813113834066795298816 := by decide
        unfold b_bent_4
        walk_at "go"
        split
        · refine ⟨mulW (a := 20) (b := 1000) (by unfold B; decide) bB (by decide) (by decide) (by decide), str_small hc bv, big_ok (by decide), ?_⟩
          obtain ⟨z, hz1, hz2⟩ := at_small (xs := [PyData.int (v + 1), .int (0 - v), .int (2 * v), .int (v - 2), .bool (decide (v = 1)), .str (toString v : String)]) i0 (by simpa using (by omega))
          refine ⟨z, hz2, .inl (kk1 z ?_)⟩
          simp only [List.mem_cons, List.not_mem_nil, or_false] at hz1
          rcases hz1 with rfl | rfl | rfl | rfl | rfl | rfl
          · exact ⟨ok_int (by omega), by simp [PyData.bulk], by simp [PyData.depth]⟩
          · exact ⟨ok_int (by omega), by simp [PyData.bulk], by simp [PyData.depth]⟩
          · exact ⟨ok_int (by omega), by simp [PyData.bulk], by simp [PyData.depth]⟩
          · exact ⟨ok_int (by omega), by simp [PyData.bulk], by simp [PyData.depth]⟩
          · exact ⟨rfl, by simp [PyData.bulk], by simp [PyData.depth]⟩
          · exact ⟨str_ok _, by have := str_bulk hc bv; omega, by simp [PyData.depth]⟩
        · exact last
      | tuple xs => exact absurd rfl (nt xs)
      | bool b =>
        unfold b_bent_4
        walk_at "go"
        split
        · refine ⟨big_ok (by decide), ?_⟩
          obtain ⟨z, hz1, hz2⟩ := at_small (xs := [PyData.int (b2 b + 1), .int (0 - b2 b), .int (2 * b2 b), .int (b2 b - 2), .bool (PyData.eqv (.bool b) (.int 1)), .str (if b = true then "True" else "False" : String)]) i0 (by simpa using (by omega))
          refine ⟨z, hz2, .inl (kk1 z ?_)⟩
          have pc : 2 ^ 84 ≤ 2 ^ (c + 2) := Nat.pow_le_pow_right (by decide) (by omega)
          have two : (2 : Nat) ^ 84 = 19342813113834066795298816 := by decide
          simp only [List.mem_cons, List.not_mem_nil, or_false] at hz1
          rcases hz1 with rfl | rfl | rfl | rfl | rfl | rfl
          · exact ⟨ok_int (by cases b <;> simp [b2] <;> omega), by simp [PyData.bulk], by simp [PyData.depth]⟩
          · exact ⟨ok_int (by cases b <;> simp [b2] <;> omega), by simp [PyData.bulk], by simp [PyData.depth]⟩
          · exact ⟨ok_int (by cases b <;> simp [b2] <;> omega), by simp [PyData.bulk], by simp [PyData.depth]⟩
          · exact ⟨ok_int (by cases b <;> simp [b2] <;> omega), by simp [PyData.bulk], by simp [PyData.depth]⟩
          · exact ⟨rfl, by simp [PyData.bulk], by simp [PyData.depth]⟩
          · refine ⟨str_ok _, ?_, by simp [PyData.depth]⟩
            cases b
            · have : (PyData.str (Str.ofString "False")).bulk = 5 := by decide +kernel
              simp only [Bool.false_eq_true, if_false]
              omega
            · have : (PyData.str (Str.ofString "True")).bulk = 4 := by decide +kernel
              simp only [if_true]
              omega
        · exact last
      | _ =>
        unfold b_bent_4
        walk_at "go"
        exact last
    cases x with
    | tuple xs =>
      have hl : xs.length ≤ 1000 := Nat.le_trans (len_bulk xs) hW
      unfold b_bent_3 b_bent_4
      walk_at "go"
      split
      · have c1 := cutP_len xs (some (-1)) none
        have c2 := cutP_len xs none (some 1)
        refine ⟨big_ok (by omega), big_ok (by omega), big_ok (by decide), big_ok (by decide), ?_⟩
        obtain ⟨z, hz1, hz2⟩ := at_small (xs := [PyData.list xs, .tuple (cutP xs none (some (-1))), .tuple (xs ++ cutP xs (some (-1)) none), .tuple xs.reverse, .tuple (cutP xs (some 1) none), .tuple (cutP xs none (some 1) ++ xs), .tuple [.tuple xs]]) i0 (by simpa using (by omega))
        refine ⟨z, hz2, .inl (kk1 z ?_)⟩
        have b1 := bulk_cut xs none (some (-1))
        have b2 := bulk_cut xs (some (-1)) none
        have b3 := bulk_cut xs (some 1) none
        have b4 := bulk_cut xs none (some 1)
        have eb : (PyData.tuple xs).bulk = PyData.bulkAll xs := by simp [PyData.bulk]
        rw [eb]
        simp only [List.mem_cons, List.not_mem_nil, or_false] at hz1
        rcases hz1 with rfl | rfl | rfl | rfl | rfl | rfl | rfl
        · exact ⟨okD.mono (by omega) (.tuple xs) hx, by simp only [PyData.bulk]; omega, by rw [depth_lst, depth_tup]; omega⟩
        · exact R.sub hx (fun y hy => cutP_mem hy) (by omega) (by omega)
        · exact R.sub hx (fun y hy => (List.mem_append.mp hy).elim id cutP_mem) (by rw [bulk_app]; omega) (by omega)
        · exact R.sub hx (fun y hy => List.mem_reverse.mp hy) (by rw [bulk_rev]; omega) (by omega)
        · exact R.sub hx (fun y hy => cutP_mem hy) (by omega) (by omega)
        · exact R.sub hx (fun y hy => (List.mem_append.mp hy).elim cutP_mem id) (by rw [bulk_app]; omega) (by omega)
        · refine ⟨?_, ?_, ?_⟩
          · exact okDs_iff.mpr fun y hy => by
              rw [List.mem_singleton.mp hy]
              exact okD.mono (by omega) (.tuple xs) hx
          · simp only [PyData.bulk, PyData.bulkAll]
            omega
          · rw [depth_tup]
            have := depth_le (n := (PyData.tuple xs).depth) (xs := [PyData.tuple xs]) fun y hy => by rw [List.mem_singleton.mp hy]; exact Nat.le_refl _
            omega
      · exact last
    | _ =>
      unfold b_bent_3
      walk_at "go"
      exact four (fun _ => (nomatch ·))
  have skip := rest ys st hst (hy.mono (by omega)) kk
  cases x with
  | tuple xs =>
    have hl : xs.length ≤ 1000 := Nat.le_trans (len_bulk xs) hW
    refine is_then kt rfl ?_
    rw [is_tuple]
    refine ⟨_, rfl, big_ok (by decide), ?_⟩
    show rNeX (.d (.tuple xs)) (.d (.tuple [])) st _
    rw [neX_t]
    cases xs with
    | nil => exact skip
    | cons x0 xs =>
      refine ⟨_, rfl, by decide, by decide, n, ys, hst, hy, by omega, ?_⟩
      rintro _ zs ⟨i, rfl, i0, i1⟩ hz
      refine ⟨trivial, ?_⟩
      show if decide (0 < i) = true then _ else _
      by_cases hi : 0 < i
      · rw [if_pos (decide_eq_true hi)]
        have hlen : (0 : Int) < ((x0 :: xs).length : Nat) := by
          rw [List.length_cons]
          omega
        obtain ⟨j, rfl⟩ : ∃ j, k = j + 1 := ⟨k - 1, by rw [depth_tup] at hD; omega⟩
        refine ⟨_, rfl, _, rfl, hlen, by omega, n + 1, zs, put_same, hz, by omega, ?_⟩
        rintro _ ws ⟨a, rfl, a0, a1⟩ hw
        rw [put_put]
        refine .inl ⟨_, rfl, _, rfl, _, rfl, _, rfl, _, rfl, ?_⟩
        obtain ⟨y, y1, y2⟩ := at_small (xs := x0 :: xs) a0 a1
        have dy := depth_mem y1
        have by' := bulk_mem y1
        have eb : (PyData.tuple (x0 :: xs)).bulk = PyData.bulkAll (x0 :: xs) := by simp [PyData.bulk]
        have oy := okDs_iff.mp hx y y1
        rw [depth_tup] at hD
        rw [eb] at hW
        refine ⟨y, y2, hs j rfl _ _ _ ⟨p, y, c, rfl, hc0, hc, oy, by omega, by omega, by omega, n + 2, ws, put_same, hw, by omega, ?_⟩⟩
        rintro _ vs ⟨z, rfl, rz⟩ hv
        rw [put_put]
        have c1 := cutP_len (x0 :: xs) none (some a)
        have c2 := cutP_len (x0 :: xs) (some (a + 1)) none
        refine ⟨big_ok (by show 1 ≤ 3000; omega), big_ok (by simp only [List.length_cons, List.length_nil] at *; omega), _, rfl, _, rfl, big_ok (by simp only [List.length_cons, List.length_nil, List.length_append] at *; omega), .inl ?_⟩
        refine kk _ vs ⟨.tuple (cutP (x0 :: xs) none (some a) ++ [z] ++ cutP (x0 :: xs) (some (a + 1)) none), rfl, ?_⟩ (hv.mono (by omega))
        have lt : a.toNat < (x0 :: xs).length := by omega
        have ea : atI (x0 :: xs) a = some (x0 :: xs)[a.toNat] := by
          have e2 := atI_nat (xs := x0 :: xs) (j := a.toNat) (List.getElem?_eq_getElem lt)
          rw [Int.toNat_of_nonneg a0] at e2
          exact e2
        have ey : (x0 :: xs)[a.toNat] = y := Option.some.inj (ea.symm.trans y2)
        have t1 := cut_take (xs := x0 :: xs) a0 (by omega)
        have t2 := cut_drop (xs := x0 :: xs) (i := a + 1) (by omega) (by omega)
        have t3 : (a + 1).toNat = a.toNat + 1 := by omega
        have t4 := bulk_at lt
        rw [ey] at t4
        have bz := rz.bk
        have dz := rz.dp
        have dd : ∀ w ∈ cutP (x0 :: xs) none (some a) ++ [z] ++ cutP (x0 :: xs) (some (a + 1)) none, w ∈ x0 :: xs ∨ w = z := fun w hw => by
          rcases List.mem_append.mp hw with hw | hw
          · rcases List.mem_append.mp hw with hw | hw
            · exact .inl (cutP_mem hw)
            · exact .inr (List.mem_singleton.mp hw)
          · exact .inl (cutP_mem hw)
        refine ⟨okDs_iff.mpr fun w hw => ?_, ?_, ?_⟩
        · rcases dd w hw with h | h
          · exact okD.mono (by omega) _ (okDs_iff.mp hx w h)
          · rw [h]
            exact rz.ok
        · rw [eb]
          simp only [PyData.bulk]
          rw [bulk_app, bulk_app, t1, t2, t3]
          simp only [PyData.bulkAll] at t4 ⊢
          omega
        · rw [depth_tup, depth_tup]
          have := depth_le (n := PyData.depthAll (x0 :: xs) + 6) (xs := cutP (x0 :: xs) none (some a) ++ [z] ++ cutP (x0 :: xs) (some (a + 1)) none) fun w hw => by
            rcases dd w hw with h | h
            · have := depth_mem h
              omega
            · rw [h]
              omega
          omega
      · rw [if_neg (by simpa using hi)]
        refine rest zs _ put_same (hz.mono (by rw [depth_tup] at hD; omega)) fun d xs' hd h => ?_
        rw [put_put]
        exact kk d xs' hd h
  | _ =>
    refine is_then kt rfl ?_
    rw [is_tuple]
    exact skip
end K01
namespace K01
open PySem PySem.Spec PyProof.Rows L2 DL LB
/-! ### lists of exceptions -/
theorem Ext.rfl' {st : Sto} : Ext st st := fun _ _ h => h
theorem Ext.trans {a b c : Sto} (h : Ext a b) (g : Ext b c) : Ext a c := fun x ds e => g x ds (h x ds e)
theorem ext_put {st : Sto} {a : Addr} {ds : List D} (h : st a = none) : Ext st (put st a ds) := fun b xs e => by
  by_cases hb : b = a
  · subst hb
    rw [h] at e
    cases e
  · exact (if_neg hb).trans e
theorem Errs.ext {st st' : Sto} {x : PyData} (h : Ext st st') : ∀ {es : List D} {lo : Nat}, Errs st x lo es → Errs st' x lo es
  | [], _, _ => trivial
  | d :: r, lo, ⟨⟨a, e, g⟩, k⟩ => ⟨⟨a, e, h a _ g⟩, Errs.ext h k⟩
theorem Errs.app {st : Sto} {x : PyData} : ∀ {es ys : List D} {lo : Nat}, Errs st x lo es → Errs st x (lo + es.length) ys → Errs st x lo (es ++ ys)
  | [], ys, lo, _, h => h
  | d :: r, ys, lo, ⟨e, k⟩, h => ⟨e, Errs.app k (by
      rw [List.length_cons] at h
      rw [show lo + 1 + r.length = lo + (r.length + 1) by omega]
      exact h)⟩
theorem Errs.get {st : Sto} {x : PyData} : ∀ {es : List D} {lo j : Nat} {d : D}, Errs st x lo es → es[j]? = some d → ∃ a, d = .obj a ∧ st a = some (contI (lo + j) x)
  | d :: r, lo, 0, _, ⟨e, k⟩, h => by
    cases h
    exact e
  | d :: r, lo, j + 1, _, ⟨e, k⟩, h => by
    have := Errs.get k (by simpa using h)
    rw [show lo + (j + 1) = lo + 1 + j by omega]
    exact this
theorem Errs.noTp {st : Sto} {x : PyData} : ∀ {es : List D} {lo : Nat}, Errs st x lo es → es.all noTp = true
  | [], _, _ => rfl
  | d :: r, lo, ⟨⟨a, e, _⟩, k⟩ => by
    subst e
    rw [List.all_cons, Errs.noTp k]
    rfl
def ExL (t : TAd) (e : Ed) (x : PyData) (lo n : Nat) : Prop := ∀ st Q, (∀ es st', Ext st st' → es.length = n → Errs st' x lo es → Q es st') → t e st Q
theorem exl_nil {e : Ed} {x : PyData} {lo : Nat} : ExL dNil e x lo 0 := fun _ _ q => q [] _ Ext.rfl' rfl trivial
theorem exl_v {C : Addr} {f : Str} {te : TEd} {t : TAd} {e : Ed} {x : PyData} {lo n : Nat} (hv : VX te e x) (hc : contI lo x = [.mk (.exc C [f]), .d x]) (r : ExL t e x (lo + 1) n) : ExL (dCons (dExv C f te) t) e x lo (n + 1) :=
  fun st Q q => hv _ _ fun a ha => r _ _ fun es st' E hn he => q (.obj a :: es) st' (fun b ds hb => E b ds (ext_put ha b ds hb)) (by rw [List.length_cons, hn]) ⟨⟨a, rfl, E a _ (by rw [hc]; exact put_same)⟩, he⟩
theorem exl_0 {C : Addr} {t : TAd} {e : Ed} {x : PyData} {lo n : Nat} (hc : contI lo x = [.mk (.ex0 C)]) (r : ExL t e x (lo + 1) n) : ExL (dCons (dExv0 C) t) e x lo (n + 1) :=
  fun st Q q a ha => r _ _ fun es st' E hn he => q (.obj a :: es) st' (fun b ds hb => E b ds (ext_put ha b ds hb)) (by rw [List.length_cons, hn]) ⟨⟨a, rfl, E a _ (by rw [hc]; exact put_same)⟩, he⟩
theorem step_first {t : TAd} {e : Ed} {E : EndsD} {st : Sto} (x : PyData) (n : Nat) (h : ExL t e x 0 n) (hn : n ≤ 100) (k : ∀ p es st', Ext st st' → st' p = some es → es.length = n → Errs st' x 0 es → E.nx (e.set 1 (some (.own p))) st') : dAsg (dLst t) (hName 1) E e st :=
  h _ _ fun es st' X hl he => ⟨by rw [hl]; exact Nat.le_trans hn (by decide), .inr fun p hp => .inl (k p es _ (X.trans (ext_put hp)) put_same hl (he.ext (ext_put hp)))⟩
theorem add_own {t : TAd} {e : Ed} {st : Sto} {Q : Kd} {x : PyData} {lo n : Nat} {p : Addr} {es : List D} (hp : e[1]? = some (some (.own p))) (hst : st p = some es) (hl : es.length = lo) (he : Errs st x 0 es) (h : ExL t e x lo n) (hn : lo + n ≤ 100)
    (k : ∀ p es st', Ext st st' → st' p = some es → es.length = lo + n → Errs st' x 0 es → Q (.own p) st') : dBin rAddD (dVar 1) (dLst t) e st Q := by
  refine ⟨_, hp, h _ _ fun ys st' X hl' hy => ⟨by rw [hl']; exact Nat.le_trans (by omega : n ≤ 100) (by decide), .inr fun q hq => ?_⟩⟩
  have X2 := X.trans (ext_put (ds := ys) hq)
  refine ⟨es, ys, X2 p es hst, put_same, by rw [hl, hl']; exact Nat.le_trans hn (by decide), .inr fun r hr => ?_⟩
  have X3 := X2.trans (ext_put (ds := es ++ ys) hr)
  refine k r _ _ X3 put_same (by rw [List.length_append, hl, hl']) (Errs.app (he.ext X3) ?_)
  rw [Nat.zero_add, hl]
  exact (hy.ext (ext_put hq)).ext (ext_put hr)
theorem step_next {t : TAd} {e : Ed} {E : EndsD} {st : Sto} {x : PyData} {lo : Nat} {p : Addr} {es : List D} (hst : st p = some es) (hl : es.length = lo) (he : Errs st x 0 es) (n : Nat) (hp : e[1]? = some (some (.own p))) (h : ExL t e x lo n) (hn : lo + n ≤ 100)
    (k : ∀ p es st', Ext st st' → st' p = some es → es.length = lo + n → Errs st' x 0 es → E.nx (e.set 1 (some (.own p))) st') : dAsg (dBin rAddD (dVar 1) (dLst t)) (hName 1) E e st :=
  add_own hp hst hl he h hn fun p es st' h1 h2 h3 h4 => .inl (k p es st' h1 h2 h3 h4)
theorem step_last {t : TAd} {e : Ed} {E : EndsD} {st : Sto} {x : PyData} {lo : Nat} {p : Addr} {es : List D} (hst : st p = some es) (hl : es.length = lo) (he : Errs st x 0 es) (n : Nat) (hp : e[1]? = some (some (.own p))) (h : ExL t e x lo n) (hn : lo + n ≤ 100)
    (k : ∀ p es st', Ext st st' → st' p = some es → es.length = lo + n → Errs st' x 0 es → E.rt (.own p) st') : dRet (dBin rAddD (dVar 1) (dLst t)) E e st :=
  add_own hp hst hl he h hn fun p es st' h1 h2 h3 h4 => .inl (k p es st' h1 h2 h3 h4)
local macro_rules | `(tactic| walk_at "exs") => `(tactic| repeat' (first | exact K01.exl_nil | refine K01.exl_v (K01.vx_var rfl) rfl ?_ | refine K01.exl_0 rfl ?_))
theorem r_by_position : ∀ ds st Q, sp_by_position ds st Q → b_by_position { nx := fun _ s' => Q (.d .none) s', rt := Q } (startD N_by_position ds) st := by
  rintro _ st Q ⟨x, rfl, k⟩
  show b_by_position _ [some (.d x), none] st
  refine step_first x 5 (by walk_at "exs") (by decide) fun p es st1 X1 h1 l1 e1 => ?_
  refine step_next h1 l1 e1 4 rfl (by walk_at "exs") (by decide) fun p es st2 X2 h1 l1 e1 => ?_
  refine step_next h1 l1 e1 4 rfl (by walk_at "exs") (by decide) fun p es st3 X3 h1 l1 e1 => ?_
  refine step_next h1 l1 e1 5 rfl (by walk_at "exs") (by decide) fun p es st4 X4 h1 l1 e1 => ?_
  refine step_next h1 l1 e1 4 rfl (by walk_at "exs") (by decide) fun p es st5 X5 h1 l1 e1 => ?_
  refine step_last h1 l1 e1 5 rfl (by walk_at "exs") (by decide) fun p es st6 X6 h1 l1 e1 => ?_
  exact k p es st6 (((((X1.trans X2).trans X3).trans X4).trans X5).trans X6) h1 l1 e1
theorem r_by_name : ∀ ds st Q, sp_by_name ds st Q → b_by_name { nx := fun _ s' => Q (.d .none) s', rt := Q } (startD N_by_name ds) st := by
  rintro _ st Q ⟨x, rfl, k⟩
  show b_by_name _ [some (.d x), none] st
  refine step_first x 3 (by walk_at "exs") (by decide) fun p es st1 X1 h1 l1 e1 => ?_
  refine step_next h1 l1 e1 3 rfl (by walk_at "exs") (by decide) fun p es st2 X2 h1 l1 e1 => ?_
  refine step_next h1 l1 e1 3 rfl (by walk_at "exs") (by decide) fun p es st3 X3 h1 l1 e1 => ?_
  refine step_next h1 l1 e1 3 rfl (by walk_at "exs") (by decide) fun p es st4 X4 h1 l1 e1 => ?_
  refine step_next h1 l1 e1 3 rfl (by walk_at "exs") (by decide) fun p es st5 X5 h1 l1 e1 => ?_
  refine step_next h1 l1 e1 3 rfl (by walk_at "exs") (by decide) fun p es st6 X6 h1 l1 e1 => ?_
  refine step_next h1 l1 e1 3 rfl (by walk_at "exs") (by decide) fun p es st7 X7 h1 l1 e1 => ?_
  refine step_next h1 l1 e1 3 rfl (by walk_at "exs") (by decide) fun p es st8 X8 h1 l1 e1 => ?_
  refine step_last h1 l1 e1 3 rfl (by walk_at "exs") (by decide) fun p es st9 X9 h1 l1 e1 => ?_
  exact k p es st9 ((((((((X1.trans X2).trans X3).trans X4).trans X5).trans X6).trans X7).trans X8).trans X9) h1 l1 e1
/-! ### what lies under what -/
def VS (st : Sto) (te : TEd) (e : Ed) (x : PyData) : Prop := ∀ Q : Kd, Q (.d x) st → te e st Q
def VSs (st : Sto) (t : TAd) (e : Ed) (xs : List PyData) : Prop := ∀ Q : List D → Sto → Prop, Q (xs.map D.d) st → t e st Q
theorem vss_nil {st : Sto} {e : Ed} : VSs st dNil e [] := fun _ q => q
theorem vss_cons {st : Sto} {te : TEd} {t : TAd} {e : Ed} {x : PyData} {xs : List PyData} (h : VS st te e x) (r : VSs st t e xs) : VSs st (dCons te t) e (x :: xs) := fun _ q => h _ (r _ q)
theorem tab_row : ∀ i < 27, ∀ j < 34, tabL j (clsL.getD i 0) = some (rowL i j) := by decide +kernel
theorem cont_is (i : Nat) (x : PyData) : IsX (clsL.getD i 0) (contI i x) := by
  unfold contI
  cases fldI i with
  | none => exact .inl rfl
  | some f => exact .inr ⟨f, .d x, rfl⟩
theorem vs_isx {st : Sto} {e : Ed} {a : Addr} {i : Nat} {x : PyData} (hst : st a = some (contI i x)) (he : e[0]? = some (some (.obj a))) (hi : i < 27) {j : Nat} (hj : j < 34) : VS st (dIsx (tabL j) (dVar 0)) e (.bool (rowL i j)) :=
  fun Q q => ⟨_, he, _, _, _, hst, cont_is i x, tab_row i hi j hj, q⟩
theorem lst_vs {st : Sto} {t : TAd} {e : Ed} {xs : List PyData} (r : VSs st t e xs) (hn : xs.length ≤ 100) : VS st (dLstV t) e (.list xs) := fun Q q => r _ (by
  show match pures (xs.map D.d) with
    | some ys => (xs.map D.d).length ≤ sizeLine ∧ Q (.d (.list ys)) st
    | none => False
  rw [pures_map]
  exact ⟨by rw [List.length_map]; exact Nat.le_trans hn (by decide), q⟩)
theorem un_first {t : TAd} {e : Ed} {E : EndsD} {st : Sto} {ys : List PyData} (hy : VSs st t e ys) (hn : ys.length ≤ 100) (k : E.nx (e.set 1 (some (.d (.list ys)))) st) : dAsg (dLstV t) (hName 1) E e st := lst_vs hy hn _ (.inl k)
theorem un_add {t : TAd} {e : Ed} {Q : Kd} {st : Sto} {xs ys : List PyData} (hp : e[1]? = some (some (.d (.list xs)))) (hy : VSs st t e ys) (hn : xs.length + ys.length ≤ 100) (k : Q (.d (.list (xs ++ ys))) st) : dBin rAddD (dVar 1) (dLstV t) e st Q :=
  ⟨_, hp, lst_vs hy (by omega) _ ⟨Nat.le_trans hn (by decide), k⟩⟩
theorem un_next {t : TAd} {e : Ed} {E : EndsD} {st : Sto} {xs ys : List PyData} (hp : e[1]? = some (some (.d (.list xs)))) (hy : VSs st t e ys) (hn : xs.length + ys.length ≤ 100) (k : E.nx (e.set 1 (some (.d (.list (xs ++ ys))))) st) : dAsg (dBin rAddD (dVar 1) (dLstV t)) (hName 1) E e st := un_add hp hy hn (.inl k)
theorem un_last {t : TAd} {e : Ed} {E : EndsD} {st : Sto} {xs ys : List PyData} (hp : e[1]? = some (some (.d (.list xs)))) (hy : VSs st t e ys) (hn : xs.length + ys.length ≤ 100) (k : E.rt (.d (.list (xs ++ ys))) st) : dRet (dBin rAddD (dVar 1) (dLstV t)) E e st := un_add hp hy hn (.inl k)
theorem r_under : ∀ ds st Q, sp_under ds st Q → b_under { nx := fun _ s' => Q (.d .none) s', rt := Q } (startD N_under ds) st := by
  rintro _ st Q ⟨a, i, x, rfl, hi, hst, k⟩
  show b_under _ [some (.obj a), none] st
  refine un_first (ys := [.bool (rowL i 0), .bool (rowL i 1), .bool (rowL i 2)]) (vss_cons (vs_isx hst rfl hi (by decide)) (vss_cons (vs_isx hst rfl hi (by decide)) (vss_cons (vs_isx hst rfl hi (by decide)) vss_nil))) (Nat.le_of_ble_eq_true rfl) ?_
  refine un_next (ys := [.bool (rowL i 3), .bool (rowL i 4), .bool (rowL i 5)]) rfl (vss_cons (vs_isx hst rfl hi (by decide)) (vss_cons (vs_isx hst rfl hi (by decide)) (vss_cons (vs_isx hst rfl hi (by decide)) vss_nil))) (Nat.le_of_ble_eq_true rfl) ?_
  refine un_next (ys := [.bool (rowL i 6), .bool (rowL i 7), .bool (rowL i 8)]) rfl (vss_cons (vs_isx hst rfl hi (by decide)) (vss_cons (vs_isx hst rfl hi (by decide)) (vss_cons (vs_isx hst rfl hi (by decide)) vss_nil))) (Nat.le_of_ble_eq_true rfl) ?_
  refine un_next (ys := [.bool (rowL i 9), .bool (rowL i 10), .bool (rowL i 11)]) rfl (vss_cons (vs_isx hst rfl hi (by decide)) (vss_cons (vs_isx hst rfl hi (by decide)) (vss_cons (vs_isx hst rfl hi (by decide)) vss_nil))) (Nat.le_of_ble_eq_true rfl) ?_
  refine un_next (ys := [.bool (rowL i 12), .bool (rowL i 13), .bool (rowL i 14)]) rfl (vss_cons (vs_isx hst rfl hi (by decide)) (vss_cons (vs_isx hst rfl hi (by decide)) (vss_cons (vs_isx hst rfl hi (by decide)) vss_nil))) (Nat.le_of_ble_eq_true rfl) ?_
  refine un_next (ys := [.bool (rowL i 15), .bool (rowL i 16), .bool (rowL i 17)]) rfl (vss_cons (vs_isx hst rfl hi (by decide)) (vss_cons (vs_isx hst rfl hi (by decide)) (vss_cons (vs_isx hst rfl hi (by decide)) vss_nil))) (Nat.le_of_ble_eq_true rfl) ?_
  refine un_next (ys := [.bool (rowL i 18), .bool (rowL i 19), .bool (rowL i 20)]) rfl (vss_cons (vs_isx hst rfl hi (by decide)) (vss_cons (vs_isx hst rfl hi (by decide)) (vss_cons (vs_isx hst rfl hi (by decide)) vss_nil))) (Nat.le_of_ble_eq_true rfl) ?_
  refine un_next (ys := [.bool (rowL i 21), .bool (rowL i 22), .bool (rowL i 23)]) rfl (vss_cons (vs_isx hst rfl hi (by decide)) (vss_cons (vs_isx hst rfl hi (by decide)) (vss_cons (vs_isx hst rfl hi (by decide)) vss_nil))) (Nat.le_of_ble_eq_true rfl) ?_
  refine un_next (ys := [.bool (rowL i 24), .bool (rowL i 25), .bool (rowL i 26)]) rfl (vss_cons (vs_isx hst rfl hi (by decide)) (vss_cons (vs_isx hst rfl hi (by decide)) (vss_cons (vs_isx hst rfl hi (by decide)) vss_nil))) (Nat.le_of_ble_eq_true rfl) ?_
  refine un_next (ys := [.bool (rowL i 27), .bool (rowL i 28), .bool (rowL i 29)]) rfl (vss_cons (vs_isx hst rfl hi (by decide)) (vss_cons (vs_isx hst rfl hi (by decide)) (vss_cons (vs_isx hst rfl hi (by decide)) vss_nil))) (Nat.le_of_ble_eq_true rfl) ?_
  refine un_next (ys := [.bool (rowL i 30), .bool (rowL i 31), .bool (rowL i 32)]) rfl (vss_cons (vs_isx hst rfl hi (by decide)) (vss_cons (vs_isx hst rfl hi (by decide)) (vss_cons (vs_isx hst rfl hi (by decide)) vss_nil))) (Nat.le_of_ble_eq_true rfl) ?_
  refine un_last (ys := [.bool (rowL i 33)]) rfl (vss_cons (vs_isx hst rfl hi (by decide)) vss_nil) (Nat.le_of_ble_eq_true rfl) ?_
  exact k
end K01
namespace K01
open PySem PySem.Spec PyProof.Rows L2 DL LB
theorem neV_s {w : Str} {st : Sto} {Q : Kd} : rNeV (.d (.str w)) (.d (.str w)) st Q = Q (.d (.bool (!decide (w = w)))) st := rfl
theorem fld_given {i : Nat} (h : i < 20) : fldI i = some "given" := if_pos h
theorem fld_index {i : Nat} (h : 20 ≤ i) (h2 : i < 23) : fldI i = some "index" := (if_neg (by omega)).trans (if_pos h2)
theorem fld_spot {i : Nat} (h : i = 23) : fldI i = some "spot" := by subst h; rfl
theorem cont_fld {i : Nat} {f : Str} {x : PyData} (h : fldI i = some f) : contI i x = [.mk (.exc (clsL.getD i 0) [f]), .d x] := by
  unfold contI
  rw [h]
theorem ok_given : ∀ i < 20, okL "given" (clsL.getD i 0) = true := by decide +kernel
theorem ok_index : ∀ i < 23, 20 ≤ i → okL "index" (clsL.getD i 0) = true := by decide +kernel
theorem ok_spot : okL "spot" (clsL.getD 23 0) = true := by decide +kernel
theorem row_ok : ∀ i < 27, rB 84 1000 6 (.list ((List.range 34).map fun j => .bool (rowL i j))) = true := by decide +kernel
/-- what is held is what was given -/
theorem held {f : Str} {e : Ed} {st : Sto} {Q : Kd} {a : Addr} {i : Nat} {x : PyData} (hst : st a = some (contI i x)) (ha : e[2]? = some (some (.obj a))) (hx : e[1]? = some (some (.d x))) (hf : fldI i = some f) (hok : okL f (clsL.getD i 0) = true)
    (hr : x.showable = true ∧ x.shown.length ≤ sizeLine ∧ x.depth ≤ 64) (k : Q (.d (.bool true)) st) : dBin rEqV (dCall cReprD (dCons (dXf (okL f) f (dVar 2)) dNil)) (dCall cReprD (dCons (dVar 1) dNil)) e st Q := by
  refine ⟨_, ha, clsL.getD i 0, .d x, by rw [hst, cont_fld hf], hok, hr.1, hr.2.1, hr.2.2, _, hx, hr.1, hr.2.1, hr.2.2, ?_⟩
  show Q (.d (.bool (decide (x.shown = x.shown)))) st
  rw [decide_eq_true rfl]
  exact k
theorem r_is_made : ∀ ds st Q, sp_is_made ds st Q → b_is_made { nx := fun _ s' => Q (.d .none) s', rt := Q } (startD N_is_made ds) st := by
  rintro _ st Q ⟨a, i, x, rfl, hi, hst, ⟨c, W, Dp, hR, hc, hW, hD⟩, k⟩
  have hr := hR.repr hc hW hD
  show b_is_made _ [some (.d (.int (i : Nat))), some (.d x), some (.obj a), none] st
  have ro := (rB_ok (row_ok i hi)).repr (by decide) (by decide) (by decide)
  refine ⟨_, rfl, a, i, x, rfl, hi, hst, ro.1, ro.2.1, ro.2.2, by decide, by decide, ?_⟩
  refine ⟨fun j acc st2 => j ≤ 34 ∧ st2 = st ∧ acc = ((List.range j).map fun m => PyData.bool (rowL i m)).map D.d, ⟨by decide, rfl, rfl⟩, ?_⟩
  rintro j acc st2 ⟨hj, rfl, rfl⟩
  refine ⟨(fun a ds z => nomatch z), (fun hd => ?_), fun d hd => ?_⟩
  · have h34 : j = 34 := by
      have : 34 ≤ j := hd
      omega
    subst h34
    refine ⟨_, pures_map _, ro.1, ro.2.1, ro.2.2, ?_⟩
    generalize hq : (PyData.list ((List.range 34).map fun m => PyData.bool (rowL i m))).shown = w
    rw [neV_s]
    show if (!decide (w = w)) = true then _ else _
    rw [decide_eq_true rfl]
    rw [if_neg (by decide)]
    by_cases h1 : i < 20
    · refine ⟨_, rfl, trivial, ?_⟩
      show if decide ((i : Int) < 20) = true then _ else _
      rw [if_pos (decide_eq_true (by omega))]
      exact held hst rfl rfl (fld_given h1) (ok_given i h1) hr (.inl k)
    · refine ⟨_, rfl, trivial, ?_⟩
      show if decide ((i : Int) < 20) = true then _ else _
      rw [if_neg (by rw [decide_eq_true_eq]; omega)]
      refine ⟨_, rfl, trivial, ?_⟩
      show if decide ((i : Int) < 23) = true then _ else _
      by_cases h2 : i < 23
      · rw [if_pos (decide_eq_true (by omega))]
        exact held hst rfl rfl (fld_index (by omega) h2) (ok_index i h2 (by omega)) hr (.inl k)
      · rw [if_neg (by rw [decide_eq_true_eq]; omega)]
        refine ⟨_, rfl, trivial, ?_⟩
        show if decide ((i : Int) > 23) = true then _ else _
        by_cases h3 : 23 < i
        · rw [if_pos (decide_eq_true (by omega))]
          exact .inl k
        · rw [if_neg (by rw [decide_eq_true_eq]; omega)]
          have h4 : i = 23 := by omega
          subst h4
          exact held hst rfl rfl (fld_spot rfl) ok_spot hr (.inl k)
  · have hj' : j < 34 := by
      have := (List.getElem?_eq_some_iff.mp hd).1
      rw [List.length_map, List.length_range] at this
      exact this
    have hd' : ((List.range 34).map fun (m : Nat) => D.d (.int (0 + m)))[j]? = some d := hd
    rw [List.getElem?_map, List.getElem?_range hj'] at hd'
    cases hd'
    have hs : ∀ b : Bool, b = rowL i j → (((List.range j).map fun m => PyData.bool (rowL i m)).map D.d).length < sizeLine ∧ (j + 1 ≤ 34 ∧ st2 = st2 ∧ ((List.range j).map fun m => PyData.bool (rowL i m)).map D.d ++ [D.d (.bool b)] = ((List.range (j + 1)).map fun m => PyData.bool (rowL i m)).map D.d) := by
      rintro b rfl
      refine ⟨?_, by omega, rfl, ?_⟩
      · rw [List.length_map, List.length_map, List.length_range]
        exact Nat.lt_trans hj' (by decide)
      · rw [List.range_succ, List.map_append, List.map_append]
        rfl
    refine ⟨_, rfl, _, rfl, ?_⟩
    show if decide ((0 : Int) + (j : Nat) = (i : Nat)) = true then _ else _
    by_cases h1 : j = i
    · rw [if_pos (decide_eq_true (by omega))]
      refine hs true ?_
      unfold rowL
      rw [decide_eq_true h1]
      rfl
    · rw [if_neg (by rw [decide_eq_true_eq]; omega)]
      refine ⟨_, rfl, trivial, ?_⟩
      show if decide ((25 : Int) < 0 + (j : Nat)) = true then _ else _
      by_cases h2 : 25 < j
      · rw [if_pos (decide_eq_true (by omega))]
        refine ⟨trivial, hs (decide ((0 : Int) + (j : Nat) < 29)) ?_⟩
        unfold rowL
        rw [decide_eq_false h1, decide_eq_true h2, Bool.false_or, Bool.true_and]
        exact decide_eq_decide.mpr (by omega)
      · rw [if_neg (by rw [decide_eq_true_eq]; omega)]
        refine hs false ?_
        unfold rowL
        rw [decide_eq_false h1, decide_eq_false h2]
        rfl
theorem r_spoilt : ∀ ds st Q, sp_spoilt ds st Q → b_spoilt { nx := fun _ s' => Q (.d .none) s', rt := Q } (startD N_spoilt ds) st := by
  rintro _ st Q ⟨p, x, c, rfl, hc0, hc, hx, hW, hD, n, ys, hst, hy, hn, k⟩
  show b_spoilt _ [some (.own p), some (.d x), none] st
  refine ⟨_, rfl, by decide, by decide, n, ys, hst, hy, by omega, ?_⟩
  rintro _ zs ⟨i, rfl, i0, i1⟩ hz
  refine .inl ?_
  have up : ∀ {y : PyData} {vs : List D}, R (c + 2) (3 * x.bulk + 140) (x.depth + 6) y → SprL vs (n + 100) → Q (.d y) (put st p vs) := fun h hv => k _ _ ⟨_, rfl, h⟩ hv
  refine ⟨_, rfl, trivial, ?_⟩
  show if decide (i < 7) = true then _ else _
  by_cases h7 : i < 7
  · rw [if_pos (decide_eq_true h7)]
    exact ⟨_, rfl, .inl (up ⟨okD.mono (by omega) x hx, by omega, by omega⟩ (hz.mono (by omega)))⟩
  · rw [if_neg (by simpa using h7)]
    refine ⟨_, rfl, trivial, ?_⟩
    show if decide (i < 11) = true then _ else _
    by_cases h11 : i < 11
    · rw [if_pos (decide_eq_true h11)]
      refine ⟨_, rfl, _, rfl, p, x, c, rfl, hc0, hc, hx, hW, hD, by decide, n + 1, zs, put_same, hz, by omega, ?_⟩
      rintro _ ws ⟨y, rfl, hy'⟩ hw
      rw [put_put]
      exact .inl (up hy' (hw.mono (by omega)))
    · rw [if_neg (by simpa using h11)]
      refine ⟨_, rfl, n + 1, zs, put_same, hz, by omega, ?_⟩
      rintro _ ws ⟨y, rfl, hy'⟩ hw
      rw [put_put]
      exact .inl (up (hy'.up (by omega) (by omega) (by omega)) (hw.mono (by omega)))
end K01
namespace K01
open PySem PySem.Spec PyProof.Rows L2 DL LB
theorem ne27 {e : Ed} {i : Nat} {p : Addr} {es : List D} {st : Sto} {Q : Bool → Sto → Prop} (he : e[i]? = some (some (.own p))) (hst : st p = some es) (hl : es.length = 27) (h : Q false st) : dTst (dBin rNeV (dCall cLen (dCons (dVar i) dNil)) (dC (.int 27))) e st Q := by
  refine ⟨_, he, es, hst, ?_⟩
  rw [hl]
  exact h
theorem enum_len {xs : List D} : (enumT xs).length = xs.length := by
  unfold enumT
  rw [List.length_zipWith, List.length_range]
  omega
/-- all of a list are as they were made -/
theorem all_made {i : Nat} {e : Ed} {st : Sto} {p : Addr} {es : List D} {x : PyData} {v : Nat} {Q : Kd} (hv : v < 5) (hl7 : e.length = 7) (hp : e[i]? = some (some (.own p))) (hx : e[v]? = some (some (.d x))) (hst : st p = some es) (hl : es.length = 27) (he : Errs st x 0 es)
    (hR : ∃ c W D, R c W D x ∧ c ≤ 1000 ∧ W ≤ 10000 ∧ D ≤ 64) (k : Q (.d (.bool true)) st) :
    dCall cAll (dCons (dLcX mkV (dEnumO (dCons (dVar i) dNil)) (Pat.tup [(Pat.nm 5), (Pat.nm 6)]) dYes (dFn0 sp_is_made (dCons (dVar 5) (dCons (dVar v) (dCons (dVar 6) dNil))))) dNil) e st Q := by
  refine ⟨_, hp, es, hst, he.noTp, fun j acc st2 => j ≤ 27 ∧ st2 = st ∧ acc = (List.replicate j (PyData.bool true)).map D.d, ⟨by decide, rfl, rfl⟩, ?_⟩
  rintro j acc st2 ⟨hj, rfl, rfl⟩
  refine ⟨?_, (fun hd => ?_), fun d hd => ?_⟩
  · rintro _ _ ⟨⟩
    exact hst
  · refine ⟨_, pures_map _, List.replicate j true, ?_, ?_⟩
    · show some ((List.replicate j (PyData.bool true)).map D.d) = _
      rw [List.map_replicate, List.map_replicate]
    · have : (List.replicate j true).all _root_.id = true := by
        rw [List.all_eq_true]
        intro x hx
        exact (List.mem_replicate.mp hx).2
      rw [this]
      exact k
  · obtain ⟨y, hy, rfl⟩ := enumT_get hd
    obtain ⟨a, rfl, ha⟩ := he.get hy
    rw [Nat.zero_add] at ha
    have hj' : j < 27 := by
      have := (List.getElem?_eq_some_iff.mp hy).1
      omega
    refine ⟨_, rfl, _, (by
      rw [List.getElem?_set_ne (by decide), List.getElem?_set_self (by omega)]), _, (by
      rw [List.getElem?_set_ne (by omega), List.getElem?_set_ne (by omega)]
      exact hx), _, (by
      rw [List.getElem?_set_self (by rw [List.length_set]; omega)]), a, j, x, rfl, hj', ha, hR, ?_⟩
    refine ⟨by rw [List.length_map, List.length_replicate]; exact Nat.lt_of_le_of_lt hj (by decide), by omega, rfl, ?_⟩
    rw [List.replicate_succ', List.map_append]
    rfl
theorem r_right : ∀ ds st Q, sp_right ds st Q → b_right { nx := fun _ s' => Q (.d .none) s', rt := Q } (startD N_right ds) st := by
  rintro _ st Q ⟨p, n, ys, rfl, hst, hy, hn, k⟩
  show b_right _ [some (.own p), none, none, none, none, none, none] st
  refine ⟨_, rfl, _, rfl, n, ys, hst, hy, by omega, ?_⟩
  rintro _ zs ⟨x1, rfl, r1⟩ hz
  refine ⟨_, rfl, n + 1, zs, put_same, hz, by omega, ?_⟩
  rintro _ ws ⟨x2, rfl, r2⟩ hw
  refine ⟨big_ok (by show 2 ≤ 3000; decide), p, .tuple [x1, x2], 84, rfl, by decide, by decide, by simp [okD, okDs, r1.ok, r2.ok], ?_, ?_, n + 2, ws, put_same, hw, by omega, ?_⟩
  · have := r1.bk
    have := r2.bk
    simp only [PyData.bulk, PyData.bulkAll]
    omega
  · have := r1.dp
    have := r2.dp
    simp only [PyData.depth, PyData.depthAll]
    omega
  rintro _ vs ⟨y, rfl, ry⟩ hv
  have ry' : R 86 506 14 y := ry.up (by decide) (by
    have := r1.bk
    have := r2.bk
    simp only [PyData.bulk, PyData.bulkAll]
    omega) (by
    have := r1.dp
    have := r2.dp
    simp only [PyData.depth, PyData.depthAll]
    omega)
  refine .inl ⟨_, rfl, _, rfl, _, rfl, by decide, by decide, n + 102, vs, put_same, hv.mono (by omega), by omega, ?_⟩
  rintro _ us ⟨i, rfl, i0, i1⟩ hu
  refine ⟨big_ok (by show 2 ≤ 3000; decide), p, .tuple [y, .int i], 86, rfl, by decide, by decide, ?_, ?_, ?_, n + 103, us, put_same, hu.mono (by omega), by omega, ?_⟩
  · have hi : okD 86 (.int i) = true := ok_int (by
      have two : (2 : Nat) ^ 86 = 77371252455336267181195264 := by decide
      omega)
    simp [okD, okDs, ry'.ok] at hi ⊢
    exact hi
  · have := ry'.bk
    simp only [PyData.bulk, PyData.bulkAll]
    omega
  · have := ry'.dp
    simp only [PyData.depth, PyData.depthAll]
    omega
  rintro _ ts ⟨z, rfl, rz⟩ ht
  have rz' : R 88 1700 30 z := rz.up (by decide) (by
    have := ry'.bk
    simp only [PyData.bulk, PyData.bulkAll]
    omega) (by
    have := ry'.dp
    simp only [PyData.depth, PyData.depthAll]
    omega)
  refine .inl ⟨_, rfl, y, rfl, fun p1 es1 s1 X1 h1 l1 e1 => ⟨_, rfl, z, rfl, fun p2 es2 s2 X2 h2 l2 e2 => ?_⟩⟩
  have h1' := X2 p1 es1 h1
  have e1' := e1.ext X2
  refine ne27 rfl h1' l1 ?_
  refine ne27 rfl h2 l2 ?_
  refine all_made (by decide) rfl rfl rfl h1' l1 e1' ⟨_, _, _, ry', by decide, by decide, by decide⟩ ?_
  exact all_made (by decide) rfl rfl rfl h2 l2 e2 ⟨_, _, _, rz', by decide, by decide, by decide⟩ (.inl (k _))
theorem r_law : ∀ ds st Q, sp_law ds st Q → b_law { nx := fun _ s' => Q (.d .none) s', rt := Q } (startD N_law ds) st := by
  intro ds st Q h
  unfold sp_law at h
  split at h
  · rename_i ns
    obtain ⟨hl, k⟩ := h
    show b_law _ [some (.scr ns), none] st
    have e1 : (ns.map fun n => D.d (.int n)).length = ns.length := by rw [List.length_map]
    refine ⟨_, rfl, _, rfl, trivial, trivial, ?_⟩
    rw [e1]
    have hb : 0 ≤ (if (if (3 : Int) < (ns.length : Int) then (3 : Int) else (ns.length : Int)) > 2 then (if (3 : Int) < (ns.length : Int) then (3 : Int) else (ns.length : Int)) else (2 : Int)) ∧ (if (if (3 : Int) < (ns.length : Int) then (3 : Int) else (ns.length : Int)) > 2 then (if (3 : Int) < (ns.length : Int) then (3 : Int) else (ns.length : Int)) else (2 : Int)) ≤ 4 := by
      split <;> split <;> omega
    refine ⟨by omega, by omega, ?_⟩
    refine ⟨fun j acc _ => acc = (List.replicate j (PyData.bool true)).map D.d ∧ j ≤ 4, ⟨rfl, by decide⟩, ?_⟩
    rintro j acc st2 ⟨rfl, hj⟩
    refine ⟨(fun a ds z => nomatch z), (fun hd => ?_), fun d hd => ?_⟩
    · refine ⟨_, pures_map _, ?_⟩
      simp only [DL.dNil]
      refine ⟨List.replicate j true, ?_, ?_⟩
      · show some ((List.replicate j (PyData.bool true)).map D.d) = _
        rw [List.map_replicate, List.map_replicate]
      · have : (List.replicate j true).all _root_.id = true := by
          rw [List.all_eq_true]
          intro x hx
          exact (List.mem_replicate.mp hx).2
        rw [this]
        exact .inl (k _)
    · have key : ∀ (M : Int), M ≤ 4 → ((List.range M.toNat).map fun (i : Nat) => D.d (.int (0 + i)))[j]? = some d → d = D.d (.int (0 + (j : Nat))) ∧ j < 4 := by
        intro M hM hd
        have hj' : j < M.toNat := by
          have := (List.getElem?_eq_some_iff.mp hd).1
          rw [List.length_map, List.length_range] at this
          exact this
        rw [List.getElem?_map, List.getElem?_range hj'] at hd
        cases hd
        exact ⟨rfl, by omega⟩
      obtain ⟨rfl, hj'⟩ := key _ hb.2 hd
      refine ⟨_, rfl, _, rfl, hl, by omega, by omega, fun p xs hp hx => ?_⟩
      simp only [DL.dNil]
      refine ⟨p, 0, xs, rfl, put_same, hx, by decide, fun st' => ?_⟩
      refine ⟨by rw [List.length_map, List.length_replicate]; exact Nat.lt_of_le_of_lt hj (by decide), ?_, by omega⟩
      rw [List.replicate_succ', List.map_append]
      rfl
  · exact h.elim
end K01
namespace K01
open PySem PySem.Spec PyProof.Rows L2 DL LB
theorem r_spring : ∀ ds st Q, sp_spring ds st Q → b_spring { nx := fun _ s' => Q (.d .none) s', rt := Q } (startD N_spring ds) st := LB.r_spring 410203 (by decide) (by decide)
section
variable [Tabs]
variable {P : Program} {w : World} {K : PySem.W.Frag} {mg : Str → Option Value} {base : Heap}
theorem can_none {x : Str} {st : Stmt} {ps : List Str} {k : Nat} (F : Has K mg x st)
    (bind : ∀ (kV doc pm : Value) (an : Option Addr) (cdv ct : Value) (us : List Value), us.length = ps.length → bindArgs (PySem.W.fnOf x x (defArgs st) (defBody st) (defScope st) .none kV doc pm an cdv ct) ⟨us, []⟩ = pure (ps.zip us)) : Can P w K mg base k x st ps (fun _ _ _ => False) := by
  obtain ⟨f, fd, hm, F⟩ := F.ex
  exact ⟨f, fd, ⟨fun vs H Q E ⟨_, _, _, _, _, _, h, _⟩ => h.elim, fun A outer s H args us vs Q E hg hr e0 hb hv ⟨_, _, _, _, _, _, h, _⟩ => h.elim⟩, hm, F, F.binds bind⟩
theorem sc_i_InvalidPoint : FnScope [("self" : Str), "given"] [("self" : Str), "given"] (defScope i_InvalidPoint) := ⟨rfl, rfl, rfl, by decide +kernel, rfl, by decide +kernel, by decide +kernel⟩
theorem x_InvalidPoint (T : Tx K mg base) : CanX P w K mg base 1 "InvalidPoint" 44 "given" :=
  canx T.i_InvalidPoint T.m_InvalidPoint sc_i_InvalidPoint (fun _ _ _ _ _ _ _ _ => rfl) (fun _ _ _ _ _ _ _ _ => rfl) (fun f' cd A outer s Hp E => pss_done (psd_ost T.i_InvalidPoint.xc.o T.i_InvalidPoint.no (pd 0) (pd 1)))
theorem sc_i_InvalidSegment : FnScope [("self" : Str), "given"] [("self" : Str), "given"] (defScope i_InvalidSegment) := ⟨rfl, rfl, rfl, by decide +kernel, rfl, by decide +kernel, by decide +kernel⟩
theorem x_InvalidSegment (T : Tx K mg base) : CanX P w K mg base 1 "InvalidSegment" 63 "given" :=
  canx T.i_InvalidSegment T.m_InvalidSegment sc_i_InvalidSegment (fun _ _ _ _ _ _ _ _ => rfl) (fun _ _ _ _ _ _ _ _ => rfl) (fun f' cd A outer s Hp E => pss_done (psd_ost T.i_InvalidSegment.xc.o T.i_InvalidSegment.no (pd 0) (pd 1)))
theorem sc_i_InvalidFigure : FnScope [("self" : Str), "given"] [("self" : Str), "given"] (defScope i_InvalidFigure) := ⟨rfl, rfl, rfl, by decide +kernel, rfl, by decide +kernel, by decide +kernel⟩
theorem x_InvalidFigure (T : Tx K mg base) : CanX P w K mg base 1 "InvalidFigure" 82 "given" :=
  canx T.i_InvalidFigure T.m_InvalidFigure sc_i_InvalidFigure (fun _ _ _ _ _ _ _ _ => rfl) (fun _ _ _ _ _ _ _ _ => rfl) (fun f' cd A outer s Hp E => pss_done (psd_ost T.i_InvalidFigure.xc.o T.i_InvalidFigure.no (pd 0) (pd 1)))
theorem sc_i_InvalidScene : FnScope [("self" : Str), "given"] [("self" : Str), "given"] (defScope i_InvalidScene) := ⟨rfl, rfl, rfl, by decide +kernel, rfl, by decide +kernel, by decide +kernel⟩
theorem x_InvalidScene (T : Tx K mg base) : CanX P w K mg base 1 "InvalidScene" 101 "given" :=
  canx T.i_InvalidScene T.m_InvalidScene sc_i_InvalidScene (fun _ _ _ _ _ _ _ _ => rfl) (fun _ _ _ _ _ _ _ _ => rfl) (fun f' cd A outer s Hp E => pss_done (psd_ost T.i_InvalidScene.xc.o T.i_InvalidScene.no (pd 0) (pd 1)))
theorem sc_i_InvalidCell : FnScope [("self" : Str), "given"] [("self" : Str), "given"] (defScope i_InvalidCell) := ⟨rfl, rfl, rfl, by decide +kernel, rfl, by decide +kernel, by decide +kernel⟩
theorem x_InvalidCell (T : Tx K mg base) : CanX P w K mg base 1 "InvalidCell" 120 "given" :=
  canx T.i_InvalidCell T.m_InvalidCell sc_i_InvalidCell (fun _ _ _ _ _ _ _ _ => rfl) (fun _ _ _ _ _ _ _ _ => rfl) (fun f' cd A outer s Hp E => pss_done (psd_ost T.i_InvalidCell.xc.o T.i_InvalidCell.no (pd 0) (pd 1)))
theorem sc_i_InvalidName : FnScope [("self" : Str), "given"] [("self" : Str), "given"] (defScope i_InvalidName) := ⟨rfl, rfl, rfl, by decide +kernel, rfl, by decide +kernel, by decide +kernel⟩
theorem x_InvalidName (T : Tx K mg base) : CanX P w K mg base 1 "InvalidName" 139 "given" :=
  canx T.i_InvalidName T.m_InvalidName sc_i_InvalidName (fun _ _ _ _ _ _ _ _ => rfl) (fun _ _ _ _ _ _ _ _ => rfl) (fun f' cd A outer s Hp E => pss_done (psd_ost T.i_InvalidName.xc.o T.i_InvalidName.no (pd 0) (pd 1)))
theorem sc_i_InvalidIndex : FnScope [("self" : Str), "given"] [("self" : Str), "given"] (defScope i_InvalidIndex) := ⟨rfl, rfl, rfl, by decide +kernel, rfl, by decide +kernel, by decide +kernel⟩
theorem x_InvalidIndex (T : Tx K mg base) : CanX P w K mg base 1 "InvalidIndex" 158 "given" :=
  canx T.i_InvalidIndex T.m_InvalidIndex sc_i_InvalidIndex (fun _ _ _ _ _ _ _ _ => rfl) (fun _ _ _ _ _ _ _ _ => rfl) (fun f' cd A outer s Hp E => pss_done (psd_ost T.i_InvalidIndex.xc.o T.i_InvalidIndex.no (pd 0) (pd 1)))
theorem sc_i_InvalidMap : FnScope [("self" : Str), "given"] [("self" : Str), "given"] (defScope i_InvalidMap) := ⟨rfl, rfl, rfl, by decide +kernel, rfl, by decide +kernel, by decide +kernel⟩
theorem x_InvalidMap (T : Tx K mg base) : CanX P w K mg base 1 "InvalidMap" 177 "given" :=
  canx T.i_InvalidMap T.m_InvalidMap sc_i_InvalidMap (fun _ _ _ _ _ _ _ _ => rfl) (fun _ _ _ _ _ _ _ _ => rfl) (fun f' cd A outer s Hp E => pss_done (psd_ost T.i_InvalidMap.xc.o T.i_InvalidMap.no (pd 0) (pd 1)))
theorem sc_i_InvalidDart : FnScope [("self" : Str), "given"] [("self" : Str), "given"] (defScope i_InvalidDart) := ⟨rfl, rfl, rfl, by decide +kernel, rfl, by decide +kernel, by decide +kernel⟩
theorem x_InvalidDart (T : Tx K mg base) : CanX P w K mg base 1 "InvalidDart" 196 "given" :=
  canx T.i_InvalidDart T.m_InvalidDart sc_i_InvalidDart (fun _ _ _ _ _ _ _ _ => rfl) (fun _ _ _ _ _ _ _ _ => rfl) (fun f' cd A outer s Hp E => pss_done (psd_ost T.i_InvalidDart.xc.o T.i_InvalidDart.no (pd 0) (pd 1)))
theorem sc_i_InvalidSpecial : FnScope [("self" : Str), "given"] [("self" : Str), "given"] (defScope i_InvalidSpecial) := ⟨rfl, rfl, rfl, by decide +kernel, rfl, by decide +kernel, by decide +kernel⟩
theorem x_InvalidSpecial (T : Tx K mg base) : CanX P w K mg base 1 "InvalidSpecial" 215 "given" :=
  canx T.i_InvalidSpecial T.m_InvalidSpecial sc_i_InvalidSpecial (fun _ _ _ _ _ _ _ _ => rfl) (fun _ _ _ _ _ _ _ _ => rfl) (fun f' cd A outer s Hp E => pss_done (psd_ost T.i_InvalidSpecial.xc.o T.i_InvalidSpecial.no (pd 0) (pd 1)))
theorem sc_i_InvalidFace : FnScope [("self" : Str), "given"] [("self" : Str), "given"] (defScope i_InvalidFace) := ⟨rfl, rfl, rfl, by decide +kernel, rfl, by decide +kernel, by decide +kernel⟩
theorem x_InvalidFace (T : Tx K mg base) : CanX P w K mg base 1 "InvalidFace" 234 "given" :=
  canx T.i_InvalidFace T.m_InvalidFace sc_i_InvalidFace (fun _ _ _ _ _ _ _ _ => rfl) (fun _ _ _ _ _ _ _ _ => rfl) (fun f' cd A outer s Hp E => pss_done (psd_ost T.i_InvalidFace.xc.o T.i_InvalidFace.no (pd 0) (pd 1)))
theorem sc_i_InvalidPart : FnScope [("self" : Str), "given"] [("self" : Str), "given"] (defScope i_InvalidPart) := ⟨rfl, rfl, rfl, by decide +kernel, rfl, by decide +kernel, by decide +kernel⟩
theorem x_InvalidPart (T : Tx K mg base) : CanX P w K mg base 1 "InvalidPart" 253 "given" :=
  canx T.i_InvalidPart T.m_InvalidPart sc_i_InvalidPart (fun _ _ _ _ _ _ _ _ => rfl) (fun _ _ _ _ _ _ _ _ => rfl) (fun f' cd A outer s Hp E => pss_done (psd_ost T.i_InvalidPart.xc.o T.i_InvalidPart.no (pd 0) (pd 1)))
theorem sc_i_InvalidStep : FnScope [("self" : Str), "given"] [("self" : Str), "given"] (defScope i_InvalidStep) := ⟨rfl, rfl, rfl, by decide +kernel, rfl, by decide +kernel, by decide +kernel⟩
theorem x_InvalidStep (T : Tx K mg base) : CanX P w K mg base 1 "InvalidStep" 272 "given" :=
  canx T.i_InvalidStep T.m_InvalidStep sc_i_InvalidStep (fun _ _ _ _ _ _ _ _ => rfl) (fun _ _ _ _ _ _ _ _ => rfl) (fun f' cd A outer s Hp E => pss_done (psd_ost T.i_InvalidStep.xc.o T.i_InvalidStep.no (pd 0) (pd 1)))
theorem sc_i_InvalidSide : FnScope [("self" : Str), "given"] [("self" : Str), "given"] (defScope i_InvalidSide) := ⟨rfl, rfl, rfl, by decide +kernel, rfl, by decide +kernel, by decide +kernel⟩
theorem x_InvalidSide (T : Tx K mg base) : CanX P w K mg base 1 "InvalidSide" 291 "given" :=
  canx T.i_InvalidSide T.m_InvalidSide sc_i_InvalidSide (fun _ _ _ _ _ _ _ _ => rfl) (fun _ _ _ _ _ _ _ _ => rfl) (fun f' cd A outer s Hp E => pss_done (psd_ost T.i_InvalidSide.xc.o T.i_InvalidSide.no (pd 0) (pd 1)))
theorem sc_i_InvalidCode : FnScope [("self" : Str), "given"] [("self" : Str), "given"] (defScope i_InvalidCode) := ⟨rfl, rfl, rfl, by decide +kernel, rfl, by decide +kernel, by decide +kernel⟩
theorem x_InvalidCode (T : Tx K mg base) : CanX P w K mg base 1 "InvalidCode" 310 "given" :=
  canx T.i_InvalidCode T.m_InvalidCode sc_i_InvalidCode (fun _ _ _ _ _ _ _ _ => rfl) (fun _ _ _ _ _ _ _ _ => rfl) (fun f' cd A outer s Hp E => pss_done (psd_ost T.i_InvalidCode.xc.o T.i_InvalidCode.no (pd 0) (pd 1)))
theorem sc_i_InvalidPick : FnScope [("self" : Str), "given"] [("self" : Str), "given"] (defScope i_InvalidPick) := ⟨rfl, rfl, rfl, by decide +kernel, rfl, by decide +kernel, by decide +kernel⟩
theorem x_InvalidPick (T : Tx K mg base) : CanX P w K mg base 1 "InvalidPick" 329 "given" :=
  canx T.i_InvalidPick T.m_InvalidPick sc_i_InvalidPick (fun _ _ _ _ _ _ _ _ => rfl) (fun _ _ _ _ _ _ _ _ => rfl) (fun f' cd A outer s Hp E => pss_done (psd_ost T.i_InvalidPick.xc.o T.i_InvalidPick.no (pd 0) (pd 1)))
theorem sc_i_InvalidDeed : FnScope [("self" : Str), "given"] [("self" : Str), "given"] (defScope i_InvalidDeed) := ⟨rfl, rfl, rfl, by decide +kernel, rfl, by decide +kernel, by decide +kernel⟩
theorem x_InvalidDeed (T : Tx K mg base) : CanX P w K mg base 1 "InvalidDeed" 348 "given" :=
  canx T.i_InvalidDeed T.m_InvalidDeed sc_i_InvalidDeed (fun _ _ _ _ _ _ _ _ => rfl) (fun _ _ _ _ _ _ _ _ => rfl) (fun f' cd A outer s Hp E => pss_done (psd_ost T.i_InvalidDeed.xc.o T.i_InvalidDeed.no (pd 0) (pd 1)))
theorem sc_i_InvalidBook : FnScope [("self" : Str), "given"] [("self" : Str), "given"] (defScope i_InvalidBook) := ⟨rfl, rfl, rfl, by decide +kernel, rfl, by decide +kernel, by decide +kernel⟩
theorem x_InvalidBook (T : Tx K mg base) : CanX P w K mg base 1 "InvalidBook" 367 "given" :=
  canx T.i_InvalidBook T.m_InvalidBook sc_i_InvalidBook (fun _ _ _ _ _ _ _ _ => rfl) (fun _ _ _ _ _ _ _ _ => rfl) (fun f' cd A outer s Hp E => pss_done (psd_ost T.i_InvalidBook.xc.o T.i_InvalidBook.no (pd 0) (pd 1)))
theorem sc_i_InvalidWindow : FnScope [("self" : Str), "given"] [("self" : Str), "given"] (defScope i_InvalidWindow) := ⟨rfl, rfl, rfl, by decide +kernel, rfl, by decide +kernel, by decide +kernel⟩
theorem x_InvalidWindow (T : Tx K mg base) : CanX P w K mg base 1 "InvalidWindow" 386 "given" :=
  canx T.i_InvalidWindow T.m_InvalidWindow sc_i_InvalidWindow (fun _ _ _ _ _ _ _ _ => rfl) (fun _ _ _ _ _ _ _ _ => rfl) (fun f' cd A outer s Hp E => pss_done (psd_ost T.i_InvalidWindow.xc.o T.i_InvalidWindow.no (pd 0) (pd 1)))
theorem sc_i_TooMany : FnScope [("self" : Str), "given"] [("self" : Str), "given"] (defScope i_TooMany) := ⟨rfl, rfl, rfl, by decide +kernel, rfl, by decide +kernel, by decide +kernel⟩
theorem x_TooMany (T : Tx K mg base) : CanX P w K mg base 1 "TooMany" 405 "given" :=
  canx T.i_TooMany T.m_TooMany sc_i_TooMany (fun _ _ _ _ _ _ _ _ => rfl) (fun _ _ _ _ _ _ _ _ => rfl) (fun f' cd A outer s Hp E => pss_done (psd_ost T.i_TooMany.xc.o T.i_TooMany.no (pd 0) (pd 1)))
theorem sc_i_InvalidSegments : FnScope [("self" : Str), "index"] [("self" : Str), "index"] (defScope i_InvalidSegments) := ⟨rfl, rfl, rfl, by decide +kernel, rfl, by decide +kernel, by decide +kernel⟩
theorem x_InvalidSegments (T : Tx K mg base) : CanX P w K mg base 1 "InvalidSegments" 424 "index" :=
  canx T.i_InvalidSegments T.m_InvalidSegments sc_i_InvalidSegments (fun _ _ _ _ _ _ _ _ => rfl) (fun _ _ _ _ _ _ _ _ => rfl) (fun f' cd A outer s Hp E => pss_done (psd_ost T.i_InvalidSegments.xc.o T.i_InvalidSegments.no (pd 0) (pd 1)))
theorem sc_i_InvalidPoints : FnScope [("self" : Str), "index"] [("self" : Str), "index"] (defScope i_InvalidPoints) := ⟨rfl, rfl, rfl, by decide +kernel, rfl, by decide +kernel, by decide +kernel⟩
theorem x_InvalidPoints (T : Tx K mg base) : CanX P w K mg base 1 "InvalidPoints" 443 "index" :=
  canx T.i_InvalidPoints T.m_InvalidPoints sc_i_InvalidPoints (fun _ _ _ _ _ _ _ _ => rfl) (fun _ _ _ _ _ _ _ _ => rfl) (fun f' cd A outer s Hp E => pss_done (psd_ost T.i_InvalidPoints.xc.o T.i_InvalidPoints.no (pd 0) (pd 1)))
theorem sc_i_InvalidLines : FnScope [("self" : Str), "index"] [("self" : Str), "index"] (defScope i_InvalidLines) := ⟨rfl, rfl, rfl, by decide +kernel, rfl, by decide +kernel, by decide +kernel⟩
theorem x_InvalidLines (T : Tx K mg base) : CanX P w K mg base 1 "InvalidLines" 462 "index" :=
  canx T.i_InvalidLines T.m_InvalidLines sc_i_InvalidLines (fun _ _ _ _ _ _ _ _ => rfl) (fun _ _ _ _ _ _ _ _ => rfl) (fun f' cd A outer s Hp E => pss_done (psd_ost T.i_InvalidLines.xc.o T.i_InvalidLines.no (pd 0) (pd 1)))
theorem sc_i_BadText : FnScope [("self" : Str), "spot"] [("self" : Str), "spot"] (defScope i_BadText) := ⟨rfl, rfl, rfl, by decide +kernel, rfl, by decide +kernel, by decide +kernel⟩
theorem x_BadText (T : Tx K mg base) : CanX P w K mg base 1 "BadText" 481 "spot" :=
  canx T.i_BadText T.m_BadText sc_i_BadText (fun _ _ _ _ _ _ _ _ => rfl) (fun _ _ _ _ _ _ _ _ => rfl) (fun f' cd A outer s Hp E => pss_done (psd_ost T.i_BadText.xc.o T.i_BadText.no (pd 0) (pd 1)))
theorem c_spring (T : Tx K mg base) : Can P w K mg base 1 "_law_spring" s_spring ["_law_script", "_law_turn"] sp_spring :=
  can_of T.h_spring sc_spring (fun ds s Q h => by
    first
    | (obtain ⟨_, rfl, _⟩ := h; rfl)
    | (obtain ⟨_, _, rfl, _⟩ := h; rfl)
    | (obtain ⟨_, _, _, rfl, _⟩ := h; rfl)
    | (obtain ⟨_, _, _, _, rfl, _⟩ := h; rfl)
    | (obtain ⟨_, _, _, _, _, rfl, _⟩ := h; rfl)
    | (obtain ⟨_, _, _, _, _, _, rfl, _⟩ := h; rfl)
    | (obtain ⟨_, _, _, _, _, _, _, rfl, _⟩ := h; rfl)
    | (obtain ⟨_, _, _, _, _, _, _, _, rfl, _⟩ := h; rfl)
    | (obtain ⟨_, _, _, _, _, _, _, _, _, rfl, _⟩ := h; rfl)
    | (unfold sp_spring at h; split at h <;> first | rfl | exact h.elim)) (fun _ _ _ _ _ _ us hl => match us, hl with | [_, _], _ => rfl) (fun f cd A outer s H E hG hr => t_spring (k := 0) (by omega) T  f cd A outer s H E hG hr) r_spring
theorem c_draw (T : Tx K mg base) : Can P w K mg base 1 "_law_draw" s_draw ["_law_spring_here", "_law_many"] sp_draw :=
  can_of T.h_draw sc_draw (fun ds s Q h => by
    first
    | (obtain ⟨_, rfl, _⟩ := h; rfl)
    | (obtain ⟨_, _, rfl, _⟩ := h; rfl)
    | (obtain ⟨_, _, _, rfl, _⟩ := h; rfl)
    | (obtain ⟨_, _, _, _, rfl, _⟩ := h; rfl)
    | (obtain ⟨_, _, _, _, _, rfl, _⟩ := h; rfl)
    | (obtain ⟨_, _, _, _, _, _, rfl, _⟩ := h; rfl)
    | (obtain ⟨_, _, _, _, _, _, _, rfl, _⟩ := h; rfl)
    | (obtain ⟨_, _, _, _, _, _, _, _, rfl, _⟩ := h; rfl)
    | (obtain ⟨_, _, _, _, _, _, _, _, _, rfl, _⟩ := h; rfl)
    | (unfold sp_draw at h; split at h <;> first | rfl | exact h.elim)) (fun _ _ _ _ _ _ us hl => match us, hl with | [_, _], _ => rfl) (fun f cd A outer s H E hG hr => t_draw (k := 0) (by omega) T  f cd A outer s H E hG hr) r_draw
theorem c_one_of (T : Tx K mg base) : Can P w K mg base 2 "_law_one_of" s_one_of ["_law_spring_here", "_law_some"] sp_one_of :=
  can_of T.h_one_of sc_one_of (fun ds s Q h => by
    first
    | (obtain ⟨_, rfl, _⟩ := h; rfl)
    | (obtain ⟨_, _, rfl, _⟩ := h; rfl)
    | (obtain ⟨_, _, _, rfl, _⟩ := h; rfl)
    | (obtain ⟨_, _, _, _, rfl, _⟩ := h; rfl)
    | (obtain ⟨_, _, _, _, _, rfl, _⟩ := h; rfl)
    | (obtain ⟨_, _, _, _, _, _, rfl, _⟩ := h; rfl)
    | (obtain ⟨_, _, _, _, _, _, _, rfl, _⟩ := h; rfl)
    | (obtain ⟨_, _, _, _, _, _, _, _, rfl, _⟩ := h; rfl)
    | (obtain ⟨_, _, _, _, _, _, _, _, _, rfl, _⟩ := h; rfl)
    | (unfold sp_one_of at h; split at h <;> first | rfl | exact h.elim)) (fun _ _ _ _ _ _ us hl => match us, hl with | [_, _], _ => rfl) (fun f cd A outer s H E hG hr => t_one_of (k := 1) (by omega) T (c_draw T) f cd A outer s H E hG hr) r_one_of
theorem c_odd (T : Tx K mg base) : Can P w K mg base 3 "_law_odd" s_odd ["_law_spring_here"] sp_odd :=
  can_of T.h_odd sc_odd (fun ds s Q h => by
    first
    | (obtain ⟨_, rfl, _⟩ := h; rfl)
    | (obtain ⟨_, _, rfl, _⟩ := h; rfl)
    | (obtain ⟨_, _, _, rfl, _⟩ := h; rfl)
    | (obtain ⟨_, _, _, _, rfl, _⟩ := h; rfl)
    | (obtain ⟨_, _, _, _, _, rfl, _⟩ := h; rfl)
    | (obtain ⟨_, _, _, _, _, _, rfl, _⟩ := h; rfl)
    | (obtain ⟨_, _, _, _, _, _, _, rfl, _⟩ := h; rfl)
    | (obtain ⟨_, _, _, _, _, _, _, _, rfl, _⟩ := h; rfl)
    | (obtain ⟨_, _, _, _, _, _, _, _, _, rfl, _⟩ := h; rfl)
    | (unfold sp_odd at h; split at h <;> first | rfl | exact h.elim)) (fun _ _ _ _ _ _ us hl => match us, hl with | [_], _ => rfl) (fun f cd A outer s H E hG hr => t_odd (k := 2) (by omega) T (c_one_of T) f cd A outer s H E hG hr) r_odd
theorem c_bentK (T : Tx K mg base) : ∀ n : Nat, Can P w K mg base (4 + n) "_law_bent" s_bent ["_law_spring_here", "_law_thing"] (sp_bentK n)
  | 0 => can_of T.h_bent sc_bent (fun ds s Q h => by
    first
    | (obtain ⟨_, rfl, _⟩ := h; rfl)
    | (obtain ⟨_, _, rfl, _⟩ := h; rfl)
    | (obtain ⟨_, _, _, rfl, _⟩ := h; rfl)
    | (obtain ⟨_, _, _, _, rfl, _⟩ := h; rfl)
    | (obtain ⟨_, _, _, _, _, rfl, _⟩ := h; rfl)
    | (obtain ⟨_, _, _, _, _, _, rfl, _⟩ := h; rfl)
    | (obtain ⟨_, _, _, _, _, _, _, rfl, _⟩ := h; rfl)
    | (obtain ⟨_, _, _, _, _, _, _, _, rfl, _⟩ := h; rfl)
    | (obtain ⟨_, _, _, _, _, _, _, _, _, rfl, _⟩ := h; rfl)
    | (unfold sp_bentK at h; split at h <;> first | rfl | exact h.elim)) (fun _ _ _ _ _ _ us hl => match us, hl with | [_, _], _ => rfl) (fun f cd A outer s H E hG hr => t_bent (k := 3) (by omega) T (c_draw T) (can_none T.h_bent (fun _ _ _ _ _ _ us hl => match us, hl with | [_, _], _ => rfl)) (c_odd T) f cd A outer s H E hG hr) (r_bent 0 _ (fun m e => by cases e))
  | n + 1 => can_of T.h_bent sc_bent (fun ds s Q h => by
    first
    | (obtain ⟨_, rfl, _⟩ := h; rfl)
    | (obtain ⟨_, _, rfl, _⟩ := h; rfl)
    | (obtain ⟨_, _, _, rfl, _⟩ := h; rfl)
    | (obtain ⟨_, _, _, _, rfl, _⟩ := h; rfl)
    | (obtain ⟨_, _, _, _, _, rfl, _⟩ := h; rfl)
    | (obtain ⟨_, _, _, _, _, _, rfl, _⟩ := h; rfl)
    | (obtain ⟨_, _, _, _, _, _, _, rfl, _⟩ := h; rfl)
    | (obtain ⟨_, _, _, _, _, _, _, _, rfl, _⟩ := h; rfl)
    | (obtain ⟨_, _, _, _, _, _, _, _, _, rfl, _⟩ := h; rfl)
    | (unfold sp_bentK at h; split at h <;> first | rfl | exact h.elim)) (fun _ _ _ _ _ _ us hl => match us, hl with | [_, _], _ => rfl) (fun f cd A outer s H E hG hr => t_bent (k := 4 + n) (by omega) T (c_draw T) (c_bentK T n) (c_odd T) f cd A outer s H E hG hr) (r_bent (n + 1) _ (fun m e ds st Q h => by cases e; exact h))
theorem c_bent (T : Tx K mg base) : Can P w K mg base 44 "_law_bent" s_bent ["_law_spring_here", "_law_thing"] sp_bent := (c_bentK T 40).lift (by omega)
theorem c_spoilt (T : Tx K mg base) : Can P w K mg base 45 "_law_spoilt" s_spoilt ["_law_spring_here", "_law_thing"] sp_spoilt :=
  can_of T.h_spoilt sc_spoilt (fun ds s Q h => by
    first
    | (obtain ⟨_, rfl, _⟩ := h; rfl)
    | (obtain ⟨_, _, rfl, _⟩ := h; rfl)
    | (obtain ⟨_, _, _, rfl, _⟩ := h; rfl)
    | (obtain ⟨_, _, _, _, rfl, _⟩ := h; rfl)
    | (obtain ⟨_, _, _, _, _, rfl, _⟩ := h; rfl)
    | (obtain ⟨_, _, _, _, _, _, rfl, _⟩ := h; rfl)
    | (obtain ⟨_, _, _, _, _, _, _, rfl, _⟩ := h; rfl)
    | (obtain ⟨_, _, _, _, _, _, _, _, rfl, _⟩ := h; rfl)
    | (obtain ⟨_, _, _, _, _, _, _, _, _, rfl, _⟩ := h; rfl)
    | (unfold sp_spoilt at h; split at h <;> first | rfl | exact h.elim)) (fun _ _ _ _ _ _ us hl => match us, hl with | [_, _], _ => rfl) (fun f cd A outer s H E hG hr => t_spoilt (k := 44) (by omega) T (c_draw T) (c_bent T) (c_odd T) f cd A outer s H E hG hr) r_spoilt
theorem c_by_position (T : Tx K mg base) : Can P w K mg base 3 "_law_by_position" s_by_position ["_law_thing"] sp_by_position :=
  can_of T.h_by_position sc_by_position (fun ds s Q h => by
    first
    | (obtain ⟨_, rfl, _⟩ := h; rfl)
    | (obtain ⟨_, _, rfl, _⟩ := h; rfl)
    | (obtain ⟨_, _, _, rfl, _⟩ := h; rfl)
    | (obtain ⟨_, _, _, _, rfl, _⟩ := h; rfl)
    | (obtain ⟨_, _, _, _, _, rfl, _⟩ := h; rfl)
    | (obtain ⟨_, _, _, _, _, _, rfl, _⟩ := h; rfl)
    | (obtain ⟨_, _, _, _, _, _, _, rfl, _⟩ := h; rfl)
    | (obtain ⟨_, _, _, _, _, _, _, _, rfl, _⟩ := h; rfl)
    | (obtain ⟨_, _, _, _, _, _, _, _, _, rfl, _⟩ := h; rfl)
    | (unfold sp_by_position at h; split at h <;> first | rfl | exact h.elim)) (fun _ _ _ _ _ _ us hl => match us, hl with | [_], _ => rfl) (fun f cd A outer s H E hG hr => t_by_position (k := 2) (by omega) T (x_InvalidPoint T) (x_InvalidSegment T) (x_InvalidFigure T) (x_InvalidScene T) (x_InvalidCell T) (x_InvalidName T) (x_InvalidIndex T) (x_InvalidMap T) (x_InvalidDart T) (x_InvalidSpecial T) (x_InvalidFace T) (x_InvalidPart T) (x_InvalidStep T) (x_InvalidSide T) (x_InvalidCode T) (x_InvalidPick T) (x_InvalidDeed T) (x_InvalidBook T) (x_InvalidWindow T) (x_TooMany T) (x_InvalidSegments T) (x_InvalidPoints T) (x_InvalidLines T) (x_BadText T) f cd A outer s H E hG hr) r_by_position
theorem c_by_name (T : Tx K mg base) : Can P w K mg base 3 "_law_by_name" s_by_name ["_law_thing"] sp_by_name :=
  can_of T.h_by_name sc_by_name (fun ds s Q h => by
    first
    | (obtain ⟨_, rfl, _⟩ := h; rfl)
    | (obtain ⟨_, _, rfl, _⟩ := h; rfl)
    | (obtain ⟨_, _, _, rfl, _⟩ := h; rfl)
    | (obtain ⟨_, _, _, _, rfl, _⟩ := h; rfl)
    | (obtain ⟨_, _, _, _, _, rfl, _⟩ := h; rfl)
    | (obtain ⟨_, _, _, _, _, _, rfl, _⟩ := h; rfl)
    | (obtain ⟨_, _, _, _, _, _, _, rfl, _⟩ := h; rfl)
    | (obtain ⟨_, _, _, _, _, _, _, _, rfl, _⟩ := h; rfl)
    | (obtain ⟨_, _, _, _, _, _, _, _, _, rfl, _⟩ := h; rfl)
    | (unfold sp_by_name at h; split at h <;> first | rfl | exact h.elim)) (fun _ _ _ _ _ _ us hl => match us, hl with | [_], _ => rfl) (fun f cd A outer s H E hG hr => t_by_name (k := 2) (by omega) T (x_InvalidPoint T) (x_InvalidSegment T) (x_InvalidFigure T) (x_InvalidScene T) (x_InvalidCell T) (x_InvalidName T) (x_InvalidIndex T) (x_InvalidMap T) (x_InvalidDart T) (x_InvalidSpecial T) (x_InvalidFace T) (x_InvalidPart T) (x_InvalidStep T) (x_InvalidSide T) (x_InvalidCode T) (x_InvalidPick T) (x_InvalidDeed T) (x_InvalidBook T) (x_InvalidWindow T) (x_TooMany T) (x_InvalidSegments T) (x_InvalidPoints T) (x_InvalidLines T) (x_BadText T) f cd A outer s H E hG hr) r_by_name
theorem c_under (T : Tx K mg base) : Can P w K mg base 1 "_law_under" s_under ["_law_error"] sp_under :=
  can_of T.h_under sc_under (fun ds s Q h => by
    first
    | (obtain ⟨_, rfl, _⟩ := h; rfl)
    | (obtain ⟨_, _, rfl, _⟩ := h; rfl)
    | (obtain ⟨_, _, _, rfl, _⟩ := h; rfl)
    | (obtain ⟨_, _, _, _, rfl, _⟩ := h; rfl)
    | (obtain ⟨_, _, _, _, _, rfl, _⟩ := h; rfl)
    | (obtain ⟨_, _, _, _, _, _, rfl, _⟩ := h; rfl)
    | (obtain ⟨_, _, _, _, _, _, _, rfl, _⟩ := h; rfl)
    | (obtain ⟨_, _, _, _, _, _, _, _, rfl, _⟩ := h; rfl)
    | (obtain ⟨_, _, _, _, _, _, _, _, _, rfl, _⟩ := h; rfl)
    | (unfold sp_under at h; split at h <;> first | rfl | exact h.elim)) (fun _ _ _ _ _ _ us hl => match us, hl with | [_], _ => rfl) (fun f cd A outer s H E hG hr => t_under (k := 0) (by omega) T  f cd A outer s H E hG hr) r_under
theorem c_is_made (T : Tx K mg base) : Can P w K mg base 2 "_law_is_made" s_is_made ["_law_at", "_law_thing", "_law_error"] sp_is_made :=
  can_of T.h_is_made sc_is_made (fun ds s Q h => by
    first
    | (obtain ⟨_, rfl, _⟩ := h; rfl)
    | (obtain ⟨_, _, rfl, _⟩ := h; rfl)
    | (obtain ⟨_, _, _, rfl, _⟩ := h; rfl)
    | (obtain ⟨_, _, _, _, rfl, _⟩ := h; rfl)
    | (obtain ⟨_, _, _, _, _, rfl, _⟩ := h; rfl)
    | (obtain ⟨_, _, _, _, _, _, rfl, _⟩ := h; rfl)
    | (obtain ⟨_, _, _, _, _, _, _, rfl, _⟩ := h; rfl)
    | (obtain ⟨_, _, _, _, _, _, _, _, rfl, _⟩ := h; rfl)
    | (obtain ⟨_, _, _, _, _, _, _, _, _, rfl, _⟩ := h; rfl)
    | (unfold sp_is_made at h; split at h <;> first | rfl | exact h.elim)) (fun _ _ _ _ _ _ us hl => match us, hl with | [_, _, _], _ => rfl) (fun f cd A outer s H E hG hr => t_is_made (k := 1) (by omega) T (c_under T) f cd A outer s H E hG hr) r_is_made
theorem c_right (T : Tx K mg base) : Can P w K mg base 46 "_law_right" s_right ["_law_spring_here"] sp_right :=
  can_of T.h_right sc_right (fun ds s Q h => by
    first
    | (obtain ⟨_, rfl, _⟩ := h; rfl)
    | (obtain ⟨_, _, rfl, _⟩ := h; rfl)
    | (obtain ⟨_, _, _, rfl, _⟩ := h; rfl)
    | (obtain ⟨_, _, _, _, rfl, _⟩ := h; rfl)
    | (obtain ⟨_, _, _, _, _, rfl, _⟩ := h; rfl)
    | (obtain ⟨_, _, _, _, _, _, rfl, _⟩ := h; rfl)
    | (obtain ⟨_, _, _, _, _, _, _, rfl, _⟩ := h; rfl)
    | (obtain ⟨_, _, _, _, _, _, _, _, rfl, _⟩ := h; rfl)
    | (obtain ⟨_, _, _, _, _, _, _, _, _, rfl, _⟩ := h; rfl)
    | (unfold sp_right at h; split at h <;> first | rfl | exact h.elim)) (fun _ _ _ _ _ _ us hl => match us, hl with | [_], _ => rfl) (fun f cd A outer s H E hG hr => t_right (k := 45) (by omega) T (c_spoilt T) (c_odd T) (c_draw T) (c_by_name T) (c_by_position T) (c_is_made T) f cd A outer s H E hG hr) r_right
theorem c_law (T : Tx K mg base) : Can P w K mg base 47 "law" s_law ["_law_script"] sp_law :=
  can_of T.h_law sc_law (fun ds s Q h => by
    first
    | (obtain ⟨_, rfl, _⟩ := h; rfl)
    | (obtain ⟨_, _, rfl, _⟩ := h; rfl)
    | (obtain ⟨_, _, _, rfl, _⟩ := h; rfl)
    | (obtain ⟨_, _, _, _, rfl, _⟩ := h; rfl)
    | (obtain ⟨_, _, _, _, _, rfl, _⟩ := h; rfl)
    | (obtain ⟨_, _, _, _, _, _, rfl, _⟩ := h; rfl)
    | (obtain ⟨_, _, _, _, _, _, _, rfl, _⟩ := h; rfl)
    | (obtain ⟨_, _, _, _, _, _, _, _, rfl, _⟩ := h; rfl)
    | (obtain ⟨_, _, _, _, _, _, _, _, _, rfl, _⟩ := h; rfl)
    | (unfold sp_law at h; split at h <;> first | rfl | exact h.elim)) (fun _ _ _ _ _ _ us hl => match us, hl with | [_], _ => rfl) (fun f cd A outer s H E hG hr => t_law (k := 46) (by omega) T (c_right T) (c_spring T) f cd A outer s H E hG hr) r_law
end
end K01
namespace K01
open PySem PySem.Spec PyProof.Rows L2 DL LB
instance tabsI : Tabs := ⟨[]⟩
theorem has_mk {K : PySem.W.Frag} {h : Heap} {mg : Str → Option Value} {x : Str} {st : Stmt} {f : Addr} {od an : Option Addr} {sl : Array (Option Value)} {oc kV dc pm cd ct : Value} (X : K.In h) (G : h.Ns mainGlobals mg)
    (a : PySem.W.nsIn K mainGlobals x = some (some (.ref f))) (l : K.lookup f = some ⟨oc, od, .func (PySem.W.fnOf x x (defArgs st) (defBody st) (defScope st) .none kV dc pm an cd ct), sl⟩) (c : PySem.W.codeIn K cd x = true) (k : PySem.W.keepIn K (.ref f) = true) : Has K mg x st :=
  ⟨f, _, PySem.W.mg_of X G a, fun_mk l c k⟩
theorem hasi_mk {K : PySem.W.Frag} {C fI : Addr} {qual f : Str} {st : Stmt} {od an : Option Addr} {sl : Array (Option Value)} {oc kV dc pm cd ct : Value} (xc : XC K C) (a : PySem.W.findIn K (.ref C) "__init__" = some (some (.ref fI))) (ty : PySem.W.typeIn K (.ref fI) = some (.type "function"))
    (l : K.lookup fI = some ⟨oc, od, .func (PySem.W.fnOf "__init__" qual (defArgs st) (defBody st) (defScope st) .none kV dc pm an cd ct), sl⟩) (c : PySem.W.codeIn K cd qual = true) (k : PySem.W.keepIn K (.ref fI) = true) (no : PySem.W.findIn K (.ref C) f = some none) : HasI K C qual st f :=
  ⟨xc, ⟨fI, _, a, ty, fun_mk l c k⟩, no⟩
theorem xc_all {K : PySem.W.Frag} (hx : clsL.all (xcB K) = true) {C : Addr} (h : C ∈ clsL) : XC K C := xcB_ok (List.all_eq_true.mp hx C h)
theorem tab_fst (j : Nat) : (tabT j).map (·.1) = clsL := rfl
theorem isx_row {K : PySem.W.Frag} (hx : clsL.all (xcB K) = true) (j : Nat) {u : Value} (hk : (tabT j).all (fun p => PySem.W.kitOne K (.ref p.1) u == some p.2) = true) : ∀ C b, tabL j C = some b → XC K C ∧ PySem.W.kitOne K (.ref C) u = some b :=
  isx_tab (l := tabT j) (by
    rw [List.all_eq_true]
    intro p hp
    exact List.all_eq_true.mp hx _ (by
      rw [← tab_fst j]
      exact List.mem_map_of_mem hp)) hk
theorem fld_in : ∀ p ∈ fldL, p.1 ∈ clsL := by decide +kernel
theorem fld_all {K : PySem.W.Frag} (hx : clsL.all (xcB K) = true) {f : Str} (hf : (fldL.filter fun p => p.2 == f).all (fun p => PySem.W.findIn K (.ref p.1) f == some none) = true) : ∀ C, okL f C = true → XC K C ∧ PySem.W.findIn K (.ref C) f = some none := fun C h => by
  unfold okL at h
  obtain ⟨p, hp, e⟩ := List.any_eq_true.mp h
  rw [Bool.and_eq_true] at e
  have e1 := beq_iff_eq.mp e.1
  subst e1
  exact ⟨xc_all hx (fld_in p hp), beq_iff_eq.mp (List.all_eq_true.mp hf p (List.mem_filter.mpr ⟨hp, e.2⟩))⟩
theorem hasi_mkX {K : PySem.W.Frag} {h : Heap} (X : K.In h) {C fI : Addr} {qual f : Str} {st : Stmt} {od an : Option Addr} {sl : Array (Option Value)} {oc kV dc pm cd ct : Value} (xc : XC K C) (a : PySem.W.findIn K (.ref C) "__init__" = some (some (.ref fI))) (ty : PySem.W.typeIn K (.ref fI) = some (.type "function"))
    (l : K.lookup fI = some ⟨oc, od, .func (PySem.W.fnOf "__init__" qual (defArgs st) (defBody st) (defScope st) .none kV dc pm an cd ct), sl⟩) (c : PySem.W.codeIn K cd qual = true) (k : PySem.W.keepIn K (.ref fI) = true) (no : PySem.W.findIn K (.ref C) f = some none) : HasI K C qual st f := hasi_mk xc a ty l c k no
theorem fx_of {K : PySem.W.Frag} {h : Heap} (X : K.In h) (e : clsL.all (xcB K) = true) : clsL.all (xcB K) = true := e
theorem ft_of {K : PySem.W.Frag} {h : Heap} (j : Nat) (u : Value) (X : K.In h) (e : (tabT j).all (fun p => PySem.W.kitOne K (.ref p.1) u == some p.2) = true) : (tabT j).all (fun p => PySem.W.kitOne K (.ref p.1) u == some p.2) = true := e
theorem ff_of {K : PySem.W.Frag} {h : Heap} (f : Str) (X : K.In h) (e : (fldL.filter fun p => p.2 == f).all (fun p => PySem.W.findIn K (.ref p.1) f == some none) = true) : (fldL.filter fun p => p.2 == f).all (fun p => PySem.W.findIn K (.ref p.1) f == some none) = true := e
theorem fe_of {K : PySem.W.Frag} {h : Heap} (C : Addr) (X : K.In h) (e : PySem.W.excIn K C PySem.HandSPX.veTail "ValueError.__new__" = true) : PySem.W.excIn K C PySem.HandSPX.veTail "ValueError.__new__" = true := e
theorem fk_of {K : PySem.W.Frag} {h : Heap} (C : Addr) (X : K.In h) (e : PySem.W.keepIn K (.ref C) = true) : PySem.W.keepIn K (.ref C) = true := e
theorem law_mk {P : Program} {w : World} {K : PySem.W.Frag} {h : Heap} {mg : Str → Option Value} {fa f : Addr} {od an : Option Addr} {sl : Array (Option Value)} {oc kV dc pm cd ct : Value} (X : K.In h) (G : h.Ns mainGlobals mg) (hfa : mg "law" = some (.ref fa)) (T : ∀ base : Heap, PlainK h base → Tx K mg base)
    (a : PySem.W.nsIn K mainGlobals "law" = some (some (.ref f))) (l : K.lookup f = some ⟨oc, od, .func (PySem.W.fnOf "law" "law" (defArgs s_law) (defBody s_law) (defScope s_law) .none kV dc pm an cd ct), sl⟩) (c : PySem.W.codeIn K cd "law" = true) (k : PySem.W.keepIn K (.ref f) = true) :
    ∃ fd : FuncData, (∀ (s : Shared) (u : Value), BindsTo s fd ⟨[u], []⟩ [("_law_script", u)]) ∧ ∀ base : Heap, K.In base → base.Ns mainGlobals mg → (∀ p ∈ ([] : List (Addr × Addr)), GxR.TabB base mg p.1 p.2) → PlainK h base → FnD P w K mg base 47 fa fd ["_law_script"] sp_law := by
  have e := hfa.symm.trans (PySem.W.mg_of X G a)
  cases e
  refine ⟨PySem.W.fnOf "law" "law" (defArgs s_law) (defBody s_law) (defScope s_law) .none kV dc pm an cd ct, fun s v => .of_eq rfl, fun base bX bG tb kp => ?_⟩
  have T := T base kp
  exact fnD_ok (fun_mk l c k) sc_law (fun ds s Q h => by
    unfold sp_law at h
    split at h <;> first | rfl | exact h.elim) (fun cd A outer s H E hG hr => t_law (k := 46) (by omega) T (c_right T) (c_spring T) fa cd A outer s H E hG hr) r_law
end K01
open PySem PySem.W PyProof.Rows
set_option maxHeartbeats 0 in
theorem PySem.Challenge.cw_bentalike_k01_errors_each_of_its_own_holds : PySem.Challenge.rw_bentalike_k01_errors_each_of_its_own.Holds := by
  w_on; o_law; k_head; (case hw => w_witness2)
  k_fill
  refine DL.walkGS (l := PySem.Challenge.rw_bentalike_k01_errors_each_of_its_own) (n := 63) (k := 47) (x := "_law_script") (sp := K01.sp_law) (cs := []) rfl ?hi rfl (by decide) rfl ⟨rfl, by decide, by decide⟩ (fun w h Y => PySem.W.kIn_of Y) (fun w h Y KX => ⟨fun p hp => (by cases hp), fun p hp => (by cases hp), fun p hp => (by cases hp)⟩) ?F (fun ns hl => ⟨hl, fun _ => rfl⟩)
  case hi => kernel_rfl
  case F =>
    intro w mg fa h Y KX G hmg seer
    have hx := K01.fx_of KX (by kernel_rfl)
    have ft0 := K01.ft_of 0 (.ref 44) KX (by kernel_rfl)
    have ft1 := K01.ft_of 1 (.ref 63) KX (by kernel_rfl)
    have ft2 := K01.ft_of 2 (.ref 82) KX (by kernel_rfl)
    have ft3 := K01.ft_of 3 (.ref 101) KX (by kernel_rfl)
    have ft4 := K01.ft_of 4 (.ref 120) KX (by kernel_rfl)
    have ft5 := K01.ft_of 5 (.ref 139) KX (by kernel_rfl)
    have ft6 := K01.ft_of 6 (.ref 158) KX (by kernel_rfl)
    have ft7 := K01.ft_of 7 (.ref 177) KX (by kernel_rfl)
    have ft8 := K01.ft_of 8 (.ref 196) KX (by kernel_rfl)
    have ft9 := K01.ft_of 9 (.ref 215) KX (by kernel_rfl)
    have ft10 := K01.ft_of 10 (.ref 234) KX (by kernel_rfl)
    have ft11 := K01.ft_of 11 (.ref 253) KX (by kernel_rfl)
    have ft12 := K01.ft_of 12 (.ref 272) KX (by kernel_rfl)
    have ft13 := K01.ft_of 13 (.ref 291) KX (by kernel_rfl)
    have ft14 := K01.ft_of 14 (.ref 310) KX (by kernel_rfl)
    have ft15 := K01.ft_of 15 (.ref 329) KX (by kernel_rfl)
    have ft16 := K01.ft_of 16 (.ref 348) KX (by kernel_rfl)
    have ft17 := K01.ft_of 17 (.ref 367) KX (by kernel_rfl)
    have ft18 := K01.ft_of 18 (.ref 386) KX (by kernel_rfl)
    have ft19 := K01.ft_of 19 (.ref 405) KX (by kernel_rfl)
    have ft20 := K01.ft_of 20 (.ref 424) KX (by kernel_rfl)
    have ft21 := K01.ft_of 21 (.ref 443) KX (by kernel_rfl)
    have ft22 := K01.ft_of 22 (.ref 462) KX (by kernel_rfl)
    have ft23 := K01.ft_of 23 (.ref 481) KX (by kernel_rfl)
    have ft24 := K01.ft_of 24 (.ref 493) KX (by kernel_rfl)
    have ft25 := K01.ft_of 25 (.ref 505) KX (by kernel_rfl)
    have ft26 := K01.ft_of 26 (.ref 24) KX (by kernel_rfl)
    have ft27 := K01.ft_of 27 (.type "ValueError") KX (by kernel_rfl)
    have ft28 := K01.ft_of 28 (.type "Exception") KX (by kernel_rfl)
    have ft29 := K01.ft_of 29 (.type "LookupError") KX (by kernel_rfl)
    have ft30 := K01.ft_of 30 (.type "TypeError") KX (by kernel_rfl)
    have ft31 := K01.ft_of 31 (.type "ArithmeticError") KX (by kernel_rfl)
    have ft32 := K01.ft_of 32 (.type "RuntimeError") KX (by kernel_rfl)
    have ft33 := K01.ft_of 33 (.type "AttributeError") KX (by kernel_rfl)
    have ff_given := K01.ff_of "given" KX (by kernel_rfl)
    have ff_index := K01.ff_of "index" KX (by kernel_rfl)
    have ff_spot := K01.ff_of "spot" KX (by kernel_rfl)
    have fe_NothingToUndo := K01.fe_of 493 KX (by kernel_rfl)
    have fk_NothingToUndo := K01.fk_of 493 KX (by kernel_rfl)
    have fe_NothingToRedo := K01.fe_of 505 KX (by kernel_rfl)
    have fk_NothingToRedo := K01.fk_of 505 KX (by kernel_rfl)
    have fe_BendError := K01.fe_of 24 KX (by kernel_rfl)
    have fk_BendError := K01.fk_of 24 KX (by kernel_rfl)
    have n_ValueError : mg "ValueError" = none := PySem.W.mg_none_of KX G (by k_is)
    have n_Exception : mg "Exception" = none := PySem.W.mg_none_of KX G (by k_is)
    have n_LookupError : mg "LookupError" = none := PySem.W.mg_none_of KX G (by k_is)
    have n_TypeError : mg "TypeError" = none := PySem.W.mg_none_of KX G (by k_is)
    have n_ArithmeticError : mg "ArithmeticError" = none := PySem.W.mg_none_of KX G (by k_is)
    have n_RuntimeError : mg "RuntimeError" = none := PySem.W.mg_none_of KX G (by k_is)
    have n_AttributeError : mg "AttributeError" = none := PySem.W.mg_none_of KX G (by k_is)
    have m_InvalidPoint : mg "InvalidPoint" = some (.ref 44) := PySem.W.mg_of KX G (by k_is)
    have m_InvalidSegment : mg "InvalidSegment" = some (.ref 63) := PySem.W.mg_of KX G (by k_is)
    have m_InvalidFigure : mg "InvalidFigure" = some (.ref 82) := PySem.W.mg_of KX G (by k_is)
    have m_InvalidScene : mg "InvalidScene" = some (.ref 101) := PySem.W.mg_of KX G (by k_is)
    have m_InvalidCell : mg "InvalidCell" = some (.ref 120) := PySem.W.mg_of KX G (by k_is)
    have m_InvalidName : mg "InvalidName" = some (.ref 139) := PySem.W.mg_of KX G (by k_is)
    have m_InvalidIndex : mg "InvalidIndex" = some (.ref 158) := PySem.W.mg_of KX G (by k_is)
    have m_InvalidMap : mg "InvalidMap" = some (.ref 177) := PySem.W.mg_of KX G (by k_is)
    have m_InvalidDart : mg "InvalidDart" = some (.ref 196) := PySem.W.mg_of KX G (by k_is)
    have m_InvalidSpecial : mg "InvalidSpecial" = some (.ref 215) := PySem.W.mg_of KX G (by k_is)
    have m_InvalidFace : mg "InvalidFace" = some (.ref 234) := PySem.W.mg_of KX G (by k_is)
    have m_InvalidPart : mg "InvalidPart" = some (.ref 253) := PySem.W.mg_of KX G (by k_is)
    have m_InvalidStep : mg "InvalidStep" = some (.ref 272) := PySem.W.mg_of KX G (by k_is)
    have m_InvalidSide : mg "InvalidSide" = some (.ref 291) := PySem.W.mg_of KX G (by k_is)
    have m_InvalidCode : mg "InvalidCode" = some (.ref 310) := PySem.W.mg_of KX G (by k_is)
    have m_InvalidPick : mg "InvalidPick" = some (.ref 329) := PySem.W.mg_of KX G (by k_is)
    have m_InvalidDeed : mg "InvalidDeed" = some (.ref 348) := PySem.W.mg_of KX G (by k_is)
    have m_InvalidBook : mg "InvalidBook" = some (.ref 367) := PySem.W.mg_of KX G (by k_is)
    have m_InvalidWindow : mg "InvalidWindow" = some (.ref 386) := PySem.W.mg_of KX G (by k_is)
    have m_TooMany : mg "TooMany" = some (.ref 405) := PySem.W.mg_of KX G (by k_is)
    have m_InvalidSegments : mg "InvalidSegments" = some (.ref 424) := PySem.W.mg_of KX G (by k_is)
    have m_InvalidPoints : mg "InvalidPoints" = some (.ref 443) := PySem.W.mg_of KX G (by k_is)
    have m_InvalidLines : mg "InvalidLines" = some (.ref 462) := PySem.W.mg_of KX G (by k_is)
    have m_BadText : mg "BadText" = some (.ref 481) := PySem.W.mg_of KX G (by k_is)
    have m_NothingToUndo : mg "NothingToUndo" = some (.ref 493) := PySem.W.mg_of KX G (by k_is)
    have m_NothingToRedo : mg "NothingToRedo" = some (.ref 505) := PySem.W.mg_of KX G (by k_is)
    have m_BendError : mg "BendError" = some (.ref 24) := PySem.W.mg_of KX G (by k_is)
    have i_InvalidPoint := by
      refine' K01.hasi_mkX KX (C := 44) (qual := "InvalidPoint.__init__") (st := K01.i_InvalidPoint) (f := "given") (K01.xc_all hx (by decide)) ?a ?ty ?l ?c ?k ?no
      (case a => k_is); (case ty => k_is); (case l => k_is); (case c => k_is); (case k => k_is); (case no => k_is)
    have i_InvalidSegment := by
      refine' K01.hasi_mkX KX (C := 63) (qual := "InvalidSegment.__init__") (st := K01.i_InvalidSegment) (f := "given") (K01.xc_all hx (by decide)) ?a ?ty ?l ?c ?k ?no
      (case a => k_is); (case ty => k_is); (case l => k_is); (case c => k_is); (case k => k_is); (case no => k_is)
    have i_InvalidFigure := by
      refine' K01.hasi_mkX KX (C := 82) (qual := "InvalidFigure.__init__") (st := K01.i_InvalidFigure) (f := "given") (K01.xc_all hx (by decide)) ?a ?ty ?l ?c ?k ?no
      (case a => k_is); (case ty => k_is); (case l => k_is); (case c => k_is); (case k => k_is); (case no => k_is)
    have i_InvalidScene := by
      refine' K01.hasi_mkX KX (C := 101) (qual := "InvalidScene.__init__") (st := K01.i_InvalidScene) (f := "given") (K01.xc_all hx (by decide)) ?a ?ty ?l ?c ?k ?no
      (case a => k_is); (case ty => k_is); (case l => k_is); (case c => k_is); (case k => k_is); (case no => k_is)
    have i_InvalidCell := by
      refine' K01.hasi_mkX KX (C := 120) (qual := "InvalidCell.__init__") (st := K01.i_InvalidCell) (f := "given") (K01.xc_all hx (by decide)) ?a ?ty ?l ?c ?k ?no
      (case a => k_is); (case ty => k_is); (case l => k_is); (case c => k_is); (case k => k_is); (case no => k_is)
    have i_InvalidName := by
      refine' K01.hasi_mkX KX (C := 139) (qual := "InvalidName.__init__") (st := K01.i_InvalidName) (f := "given") (K01.xc_all hx (by decide)) ?a ?ty ?l ?c ?k ?no
      (case a => k_is); (case ty => k_is); (case l => k_is); (case c => k_is); (case k => k_is); (case no => k_is)
    have i_InvalidIndex := by
      refine' K01.hasi_mkX KX (C := 158) (qual := "InvalidIndex.__init__") (st := K01.i_InvalidIndex) (f := "given") (K01.xc_all hx (by decide)) ?a ?ty ?l ?c ?k ?no
      (case a => k_is); (case ty => k_is); (case l => k_is); (case c => k_is); (case k => k_is); (case no => k_is)
    have i_InvalidMap := by
      refine' K01.hasi_mkX KX (C := 177) (qual := "InvalidMap.__init__") (st := K01.i_InvalidMap) (f := "given") (K01.xc_all hx (by decide)) ?a ?ty ?l ?c ?k ?no
      (case a => k_is); (case ty => k_is); (case l => k_is); (case c => k_is); (case k => k_is); (case no => k_is)
    have i_InvalidDart := by
      refine' K01.hasi_mkX KX (C := 196) (qual := "InvalidDart.__init__") (st := K01.i_InvalidDart) (f := "given") (K01.xc_all hx (by decide)) ?a ?ty ?l ?c ?k ?no
      (case a => k_is); (case ty => k_is); (case l => k_is); (case c => k_is); (case k => k_is); (case no => k_is)
    have i_InvalidSpecial := by
      refine' K01.hasi_mkX KX (C := 215) (qual := "InvalidSpecial.__init__") (st := K01.i_InvalidSpecial) (f := "given") (K01.xc_all hx (by decide)) ?a ?ty ?l ?c ?k ?no
      (case a => k_is); (case ty => k_is); (case l => k_is); (case c => k_is); (case k => k_is); (case no => k_is)
    have i_InvalidFace := by
      refine' K01.hasi_mkX KX (C := 234) (qual := "InvalidFace.__init__") (st := K01.i_InvalidFace) (f := "given") (K01.xc_all hx (by decide)) ?a ?ty ?l ?c ?k ?no
      (case a => k_is); (case ty => k_is); (case l => k_is); (case c => k_is); (case k => k_is); (case no => k_is)
    have i_InvalidPart := by
      refine' K01.hasi_mkX KX (C := 253) (qual := "InvalidPart.__init__") (st := K01.i_InvalidPart) (f := "given") (K01.xc_all hx (by decide)) ?a ?ty ?l ?c ?k ?no
      (case a => k_is); (case ty => k_is); (case l => k_is); (case c => k_is); (case k => k_is); (case no => k_is)
    have i_InvalidStep := by
      refine' K01.hasi_mkX KX (C := 272) (qual := "InvalidStep.__init__") (st := K01.i_InvalidStep) (f := "given") (K01.xc_all hx (by decide)) ?a ?ty ?l ?c ?k ?no
      (case a => k_is); (case ty => k_is); (case l => k_is); (case c => k_is); (case k => k_is); (case no => k_is)
    have i_InvalidSide := by
      refine' K01.hasi_mkX KX (C := 291) (qual := "InvalidSide.__init__") (st := K01.i_InvalidSide) (f := "given") (K01.xc_all hx (by decide)) ?a ?ty ?l ?c ?k ?no
      (case a => k_is); (case ty => k_is); (case l => k_is); (case c => k_is); (case k => k_is); (case no => k_is)
    have i_InvalidCode := by
      refine' K01.hasi_mkX KX (C := 310) (qual := "InvalidCode.__init__") (st := K01.i_InvalidCode) (f := "given") (K01.xc_all hx (by decide)) ?a ?ty ?l ?c ?k ?no
      (case a => k_is); (case ty => k_is); (case l => k_is); (case c => k_is); (case k => k_is); (case no => k_is)
    have i_InvalidPick := by
      refine' K01.hasi_mkX KX (C := 329) (qual := "InvalidPick.__init__") (st := K01.i_InvalidPick) (f := "given") (K01.xc_all hx (by decide)) ?a ?ty ?l ?c ?k ?no
      (case a => k_is); (case ty => k_is); (case l => k_is); (case c => k_is); (case k => k_is); (case no => k_is)
    have i_InvalidDeed := by
      refine' K01.hasi_mkX KX (C := 348) (qual := "InvalidDeed.__init__") (st := K01.i_InvalidDeed) (f := "given") (K01.xc_all hx (by decide)) ?a ?ty ?l ?c ?k ?no
      (case a => k_is); (case ty => k_is); (case l => k_is); (case c => k_is); (case k => k_is); (case no => k_is)
    have i_InvalidBook := by
      refine' K01.hasi_mkX KX (C := 367) (qual := "InvalidBook.__init__") (st := K01.i_InvalidBook) (f := "given") (K01.xc_all hx (by decide)) ?a ?ty ?l ?c ?k ?no
      (case a => k_is); (case ty => k_is); (case l => k_is); (case c => k_is); (case k => k_is); (case no => k_is)
    have i_InvalidWindow := by
      refine' K01.hasi_mkX KX (C := 386) (qual := "InvalidWindow.__init__") (st := K01.i_InvalidWindow) (f := "given") (K01.xc_all hx (by decide)) ?a ?ty ?l ?c ?k ?no
      (case a => k_is); (case ty => k_is); (case l => k_is); (case c => k_is); (case k => k_is); (case no => k_is)
    have i_TooMany := by
      refine' K01.hasi_mkX KX (C := 405) (qual := "TooMany.__init__") (st := K01.i_TooMany) (f := "given") (K01.xc_all hx (by decide)) ?a ?ty ?l ?c ?k ?no
      (case a => k_is); (case ty => k_is); (case l => k_is); (case c => k_is); (case k => k_is); (case no => k_is)
    have i_InvalidSegments := by
      refine' K01.hasi_mkX KX (C := 424) (qual := "InvalidSegments.__init__") (st := K01.i_InvalidSegments) (f := "index") (K01.xc_all hx (by decide)) ?a ?ty ?l ?c ?k ?no
      (case a => k_is); (case ty => k_is); (case l => k_is); (case c => k_is); (case k => k_is); (case no => k_is)
    have i_InvalidPoints := by
      refine' K01.hasi_mkX KX (C := 443) (qual := "InvalidPoints.__init__") (st := K01.i_InvalidPoints) (f := "index") (K01.xc_all hx (by decide)) ?a ?ty ?l ?c ?k ?no
      (case a => k_is); (case ty => k_is); (case l => k_is); (case c => k_is); (case k => k_is); (case no => k_is)
    have i_InvalidLines := by
      refine' K01.hasi_mkX KX (C := 462) (qual := "InvalidLines.__init__") (st := K01.i_InvalidLines) (f := "index") (K01.xc_all hx (by decide)) ?a ?ty ?l ?c ?k ?no
      (case a => k_is); (case ty => k_is); (case l => k_is); (case c => k_is); (case k => k_is); (case no => k_is)
    have i_BadText := by
      refine' K01.hasi_mkX KX (C := 481) (qual := "BadText.__init__") (st := K01.i_BadText) (f := "spot") (K01.xc_all hx (by decide)) ?a ?ty ?l ?c ?k ?no
      (case a => k_is); (case ty => k_is); (case l => k_is); (case c => k_is); (case k => k_is); (case no => k_is)
    have n_abs : mg "abs" = none := PySem.W.mg_none_of KX G (by k_is)
    have n_all : mg "all" = none := PySem.W.mg_none_of KX G (by k_is)
    have n_divmod : mg "divmod" = none := PySem.W.mg_none_of KX G (by k_is)
    have n_enumerate : mg "enumerate" = none := PySem.W.mg_none_of KX G (by k_is)
    have n_int : mg "int" = none := PySem.W.mg_none_of KX G (by k_is)
    have n_isinstance : mg "isinstance" = none := PySem.W.mg_none_of KX G (by k_is)
    have n_len : mg "len" = none := PySem.W.mg_none_of KX G (by k_is)
    have n_list : mg "list" = none := PySem.W.mg_none_of KX G (by k_is)
    have n_max : mg "max" = none := PySem.W.mg_none_of KX G (by k_is)
    have n_min : mg "min" = none := PySem.W.mg_none_of KX G (by k_is)
    have n_range : mg "range" = none := PySem.W.mg_none_of KX G (by k_is)
    have n_repr : mg "repr" = none := PySem.W.mg_none_of KX G (by k_is)
    have n_str : mg "str" = none := PySem.W.mg_none_of KX G (by k_is)
    have n_tuple : mg "tuple" = none := PySem.W.mg_none_of KX G (by k_is)
    have h_spring := by
      refine' K01.has_mk (x := "_law_spring") (st := K01.s_spring) KX G ?a ?l ?c ?k
      (case a => k_is); (case l => k_is); (case c => k_is); (case k => k_is)
    have h_draw := by
      refine' K01.has_mk (x := "_law_draw") (st := K01.s_draw) KX G ?a ?l ?c ?k
      (case a => k_is); (case l => k_is); (case c => k_is); (case k => k_is)
    have h_one_of := by
      refine' K01.has_mk (x := "_law_one_of") (st := K01.s_one_of) KX G ?a ?l ?c ?k
      (case a => k_is); (case l => k_is); (case c => k_is); (case k => k_is)
    have h_odd := by
      refine' K01.has_mk (x := "_law_odd") (st := K01.s_odd) KX G ?a ?l ?c ?k
      (case a => k_is); (case l => k_is); (case c => k_is); (case k => k_is)
    have h_bent := by
      refine' K01.has_mk (x := "_law_bent") (st := K01.s_bent) KX G ?a ?l ?c ?k
      (case a => k_is); (case l => k_is); (case c => k_is); (case k => k_is)
    have h_spoilt := by
      refine' K01.has_mk (x := "_law_spoilt") (st := K01.s_spoilt) KX G ?a ?l ?c ?k
      (case a => k_is); (case l => k_is); (case c => k_is); (case k => k_is)
    have h_by_position := by
      refine' K01.has_mk (x := "_law_by_position") (st := K01.s_by_position) KX G ?a ?l ?c ?k
      (case a => k_is); (case l => k_is); (case c => k_is); (case k => k_is)
    have h_by_name := by
      refine' K01.has_mk (x := "_law_by_name") (st := K01.s_by_name) KX G ?a ?l ?c ?k
      (case a => k_is); (case l => k_is); (case c => k_is); (case k => k_is)
    have h_under := by
      refine' K01.has_mk (x := "_law_under") (st := K01.s_under) KX G ?a ?l ?c ?k
      (case a => k_is); (case l => k_is); (case c => k_is); (case k => k_is)
    have h_is_made := by
      refine' K01.has_mk (x := "_law_is_made") (st := K01.s_is_made) KX G ?a ?l ?c ?k
      (case a => k_is); (case l => k_is); (case c => k_is); (case k => k_is)
    have h_right := by
      refine' K01.has_mk (x := "_law_right") (st := K01.s_right) KX G ?a ?l ?c ?k
      (case a => k_is); (case l => k_is); (case c => k_is); (case k => k_is)
    have h_law := by
      refine' K01.has_mk (x := "law") (st := K01.s_law) KX G ?a ?l ?c ?k
      (case a => k_is); (case l => k_is); (case c => k_is); (case k => k_is)
    refine' K01.law_mk KX G hmg (fun base kp => ⟨DL.SmB.seer seer kp, n_ValueError, n_Exception, n_LookupError, n_TypeError, n_ArithmeticError, n_RuntimeError, n_AttributeError, m_InvalidPoint, m_InvalidSegment, m_InvalidFigure, m_InvalidScene, m_InvalidCell, m_InvalidName, m_InvalidIndex, m_InvalidMap, m_InvalidDart, m_InvalidSpecial, m_InvalidFace, m_InvalidPart, m_InvalidStep, m_InvalidSide, m_InvalidCode, m_InvalidPick, m_InvalidDeed, m_InvalidBook, m_InvalidWindow, m_TooMany, m_InvalidSegments, m_InvalidPoints, m_InvalidLines, m_BadText, m_NothingToUndo, m_NothingToRedo, m_BendError, i_InvalidPoint, i_InvalidSegment, i_InvalidFigure, i_InvalidScene, i_InvalidCell, i_InvalidName, i_InvalidIndex, i_InvalidMap, i_InvalidDart, i_InvalidSpecial, i_InvalidFace, i_InvalidPart, i_InvalidStep, i_InvalidSide, i_InvalidCode, i_InvalidPick, i_InvalidDeed, i_InvalidBook, i_InvalidWindow, i_TooMany, i_InvalidSegments, i_InvalidPoints, i_InvalidLines, i_BadText, fe_NothingToUndo, fk_NothingToUndo, fe_NothingToRedo, fk_NothingToRedo, fe_BendError, fk_BendError, K01.isx_row hx 0 ft0, K01.isx_row hx 1 ft1, K01.isx_row hx 2 ft2, K01.isx_row hx 3 ft3, K01.isx_row hx 4 ft4, K01.isx_row hx 5 ft5, K01.isx_row hx 6 ft6, K01.isx_row hx 7 ft7, K01.isx_row hx 8 ft8, K01.isx_row hx 9 ft9, K01.isx_row hx 10 ft10, K01.isx_row hx 11 ft11, K01.isx_row hx 12 ft12, K01.isx_row hx 13 ft13, K01.isx_row hx 14 ft14, K01.isx_row hx 15 ft15, K01.isx_row hx 16 ft16, K01.isx_row hx 17 ft17, K01.isx_row hx 18 ft18, K01.isx_row hx 19 ft19, K01.isx_row hx 20 ft20, K01.isx_row hx 21 ft21, K01.isx_row hx 22 ft22, K01.isx_row hx 23 ft23, K01.isx_row hx 24 ft24, K01.isx_row hx 25 ft25, K01.isx_row hx 26 ft26, K01.isx_row hx 27 ft27, K01.isx_row hx 28 ft28, K01.isx_row hx 29 ft29, K01.isx_row hx 30 ft30, K01.isx_row hx 31 ft31, K01.isx_row hx 32 ft32, K01.isx_row hx 33 ft33, K01.fld_all hx ff_given, K01.fld_all hx ff_index, K01.fld_all hx ff_spot, n_abs, n_all, n_divmod, n_enumerate, n_int, n_isinstance, n_len, n_list, n_max, n_min, n_range, n_repr, n_str, n_tuple, h_spring, h_draw, h_one_of, h_odd, h_bent, h_spoilt, h_by_position, h_by_name, h_under, h_is_made, h_right, h_law⟩) ?a ?l ?c ?k
    (case a => k_is); (case l => k_is); (case c => k_is); (case k => k_is)
