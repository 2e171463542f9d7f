import PyProof.Rows.All
import Wide.All
import OpenK.AllK
import Wide.FinOn
import HandS.ForMost
import HandS.IsInst
import HandS.Flow
import HandS.Style
import HandS.Text
import HandS.AnyAll
import HandS.EndTab
import HandS.More
import HandS.Walk
import HandS.Codes
import HandS.NoneIn
import HandS.ForExc
import HandS.Zip
import HandS.Iter
import HandS.RevRange
import HandS.WideBits
import HandS.Star
import PyProof.NoPylong
import Flt.Len
import HandS.TupAny
import HandS.Deep
import HandS.ExcIs
import HandS.TryOnly
import KE.LtData
import KE.DataCmp
import KE.SortData
import KE.KDictLaws
import KE.KDictList
import HandS.DictComp
import HandS.FStr
import HandS.Small
import HandS.Rev
import PyProof.Rows.IntBool
import HandS.CallSlots
import HandS.Defaults
import HandS.CallLocal
import HandS.HotCalls
import PyProof.InstEq
import KE.KEqDict
import HandS.Finally
import HandS.GenList
import HandS.Nested
import PyProof.GenQ
import HandS.Conv
import HandS.Sort
import HandS.ListItems
import PySem.Challenge.RW_kindfill_k67_sides
set_option Elab.async false
set_option maxRecDepth 100000
set_option linter.all false
set_option autoImplicit false
namespace Vl
open PySem L2
abbrev D := PyData
/-- what stands in the store: a list; a dict of data; a dict whose values are lists of the store -/
inductive Ob where
  | l (ds : List D)
  | m (kvs : List (L2.Key × D))
  | mo (kvs : List (L2.Key × Nat))
  | lk (od : Obj) (vs : List (L2.Key × V)) (kvs : List (L2.Key × D))
/-- what a name holds: data; the j-th list of the store; a list that is only read -/
inductive Sl where
  | val (d : D)
  | obj (j : Nat)
  | kn (ds : List D)
  | exc (a : Addr)
/-- names and the store (none: given away) -/
structure En where
  sl : List (Option Sl)
  st : List (Option Ob)
mutual
inductive At (K : PySem.W.Frag) (F : Hp) : D → V → Prop
  | non : At K F .none .non
  | bl (b : Bool) : At K F (.bool b) (.bl b)
  | int (i : Int) : At K F (.int i) (.int i)
  | str (x : Str) : At K F (.str x) (.str x)
  | lst {a : Addr} {xs : List V} {ds : List D} : F a = some (.lst xs) → AtL K F ds xs → At K F (.list ds) (.ref a)
  | tup {a : Addr} {xs : List V} {ds : List D} : SqT K F a xs → AtL K F ds xs → At K F (.tuple ds) (.ref a)
  | dct {a : Addr} : F a = some (.dK []) → At K F (.dict []) (.ref a)
  | rcd {a dx C : Addr} {nm : Str} {fs : List (Str × V)} {kvs : List (D × D)} : PySem.W.nsIn K mainGlobals nm = some (some (.ref C)) → F a = some (.ins C dx fs) → F dx = some (.own a) → kvs.map (·.1) = fs.map (fun p => PyData.str p.1) → AtL K F (kvs.map (·.2)) (fs.map (·.2)) → At K F (.dict ((.str nm, .none) :: kvs)) (.ref a)
inductive AtL (K : PySem.W.Frag) (F : Hp) : List D → List V → Prop
  | nil : AtL K F [] []
  | cons {d : D} {ds : List D} {v : V} {vs : List V} : At K F d v → AtL K F ds vs → AtL K F (d :: ds) (v :: vs)
end
/-- what stood stands -/
def Le (F G : Hp) : Prop := ∀ b o, F b = some o → G b = some o
theorem Le.refl (F : Hp) : Le F F := fun _ _ e => e
theorem Le.trans {F G H : Hp} (a : Le F G) (b : Le G H) : Le F H := fun c o e => b c o (a c o e)
theorem Le.new {F : Hp} {p : Addr} {o : HO} (h : F p = none) : Le F (upd F p o) := fun b u e => by
  rw [upd_ne (ne_of_none e h)]
  exact e
theorem Le.free {F G : Hp} {p : Addr} (s : Le F G) (h : G p = none) : F p = none := by
  cases e : F p with
  | none => rfl
  | some o =>
    rw [s p o e] at h
    cases h
section
variable {K : PySem.W.Frag} {F G : Hp}
theorem sqT_le (s : Le F G) {a : Addr} {xs : List V} (h : SqT K F a xs) : SqT K G a xs := by
  rcases h with (h | ⟨o, h⟩) | h
  · exact .inl (.inl (s _ _ h))
  · exact .inl (.inr ⟨o, s _ _ h⟩)
  · exact .inr h
theorem sqL_le (s : Le F G) {a : Addr} {xs : List V} (h : SqL K F a xs) : SqL K G a xs := by
  rcases h with (h | ⟨o, h⟩) | h
  · exact .inl (.inl (s _ _ h))
  · exact .inl (.inr ⟨o, s _ _ h⟩)
  · exact .inr h
mutual
theorem At.le' (s : Le F G) : ∀ {d : D} {v : V}, At K F d v → At K G d v
  | _, _, .non => .non
  | _, _, .bl b => .bl b
  | _, _, .int i => .int i
  | _, _, .str x => .str x
  | _, _, .lst h1 h2 => .lst (s _ _ h1) (AtL.le' s h2)
  | _, _, .tup h1 h2 => .tup (sqT_le s h1) (AtL.le' s h2)
  | _, _, .dct h1 => .dct (s _ _ h1)
  | _, _, .rcd h0 h1 h2 h3 h4 => .rcd h0 (s _ _ h1) (s _ _ h2) h3 (AtL.le' s h4)
theorem AtL.le' (s : Le F G) : ∀ {ds : List D} {vs : List V}, AtL K F ds vs → AtL K G ds vs
  | _, _, .nil => .nil
  | _, _, .cons h1 h2 => .cons (At.le' s h1) (AtL.le' s h2)
end
theorem At.le (s : Le F G) (d : D) (v : V) (h : At K F d v) : At K G d v := At.le' s h
theorem AtL.le (s : Le F G) (ds : List D) (vs : List V) (h : AtL K F ds vs) : AtL K G ds vs := AtL.le' s h
theorem can_all1 {x : D} {xs : List D} (h : PyData.canLayAll0 (x :: xs) = true) : PyData.canLay0 x = true ∧ PyData.canLayAll0 xs = true := by
  rw [PyData.canLayAll0, Bool.and_eq_true] at h
  exact h
mutual
theorem At.dp (s : Le F G) : ∀ (d : D) (v : V), PyData.canLay0 d = true → At K F d v → Dp K G v d
  | .none, _, _, h => by
    cases h
    exact .non
  | .bool b, _, _, h => by
    cases h
    exact .bl b
  | .int i, _, _, h => by
    cases h
    exact .int i
  | .str x, _, _, h => by
    cases h
    exact .str x
  | .list ds, _, c, h => by
    cases h with
    | lst h1 h2 => exact .lst (SqL.of (s _ _ h1)) (AtL.dp s ds _ (by rw [PyData.canLay0] at c; exact c) h2)
  | .tuple ds, _, c, h => by
    cases h with
    | tup h1 h2 => exact .tup (sqT_le s h1) (AtL.dp s ds _ (by rw [PyData.canLay0] at c; exact c) h2)
  | .dict _, _, c, h => by
    rw [PyData.canLay0] at c
    cases c
theorem AtL.dp (s : Le F G) : ∀ (ds : List D) (vs : List V), PyData.canLayAll0 ds = true → AtL K F ds vs → DpAll K G vs ds
  | [], _, _, h => by
    cases h
    exact .nil
  | d :: ds, _, c, h => by
    cases h with
    | cons h1 h2 => exact .cons (At.dp s d _ (can_all1 c).1 h1) (AtL.dp s ds _ (can_all1 c).2 h2)
end
theorem AtL.len {ds : List D} {vs : List V} (h : AtL K F ds vs) : vs.length = ds.length := by
  induction ds generalizing vs with
  | nil =>
    cases h
    rfl
  | cons d ds ih =>
    cases h with
    | cons h1 h2 => simp [ih h2]
theorem AtL.app {ds es : List D} {vs us : List V} (h : AtL K F ds vs) (g : AtL K F es us) : AtL K F (ds ++ es) (vs ++ us) := by
  induction ds generalizing vs with
  | nil =>
    cases h
    exact g
  | cons d ds ih =>
    cases h with
    | cons h1 h2 => exact .cons h1 (ih h2)
theorem AtL.one {d : D} {v : V} (h : At K F d v) : AtL K F [d] [v] := .cons h .nil
theorem AtL.get {ds : List D} {vs : List V} {i : Nat} {d : D} (h : AtL K F ds vs) (e : ds[i]? = some d) : ∃ v, vs[i]? = some v ∧ At K F d v := by
  induction ds generalizing vs i with
  | nil => simp at e
  | cons c ds ih =>
    cases h with
    | cons h1 h2 =>
      cases i with
      | zero =>
        simp at e
        exact ⟨_, rfl, e ▸ h1⟩
      | succ i => exact ih (i := i) h2 (by simpa using e)
theorem AtL.set {ds : List D} {vs : List V} {d : D} {v : V} (g : At K F d v) (j : Nat) (h : AtL K F ds vs) : AtL K F (ds.set j d) (vs.set j v) := by
  induction ds generalizing vs j with
  | nil =>
    cases h
    exact .nil
  | cons c ds ih =>
    cases h with
    | cons h1 h2 =>
      cases j with
      | zero => exact .cons g h2
      | succ j => exact .cons h1 (ih j h2)
theorem AtL.take {ds : List D} {vs : List V} (n : Nat) (h : AtL K F ds vs) : AtL K F (ds.take n) (vs.take n) := by
  induction ds generalizing vs n with
  | nil =>
    cases h
    simp
    exact .nil
  | cons c ds ih =>
    cases h with
    | cons h1 h2 =>
      cases n with
      | zero => exact .nil
      | succ n => exact .cons h1 (ih n h2)
theorem AtL.drop {ds : List D} {vs : List V} (n : Nat) (h : AtL K F ds vs) : AtL K F (ds.drop n) (vs.drop n) := by
  induction ds generalizing vs n with
  | nil =>
    cases h
    simp
    exact .nil
  | cons c ds ih =>
    cases h with
    | cons h1 h2 =>
      cases n with
      | zero => exact .cons h1 h2
      | succ n => exact ih n h2
theorem AtL.dropLast {ds : List D} {vs : List V} (h : AtL K F ds vs) : AtL K F ds.dropLast vs.dropLast := by
  rw [List.dropLast_eq_take, List.dropLast_eq_take, h.len]
  exact h.take _
end
/-- a name's value -/
def SlAt (K : PySem.W.Frag) (F : Hp) (A : List Addr) (v : V) : Sl → Prop
  | .val d => At K F d v
  | .obj j => ∃ a, A[j]? = some a ∧ v = .ref a
  | .kn ds => ∃ a xs, v = .ref a ∧ SqL K F a xs ∧ AtL K F ds xs
  | .exc a => v = .ref a
theorem SlAt.le {K : PySem.W.Frag} {F G : Hp} {A B : List Addr} (s : Le F G) (p : A <+: B) {v : V} : ∀ {x : Sl}, SlAt K F A v x → SlAt K G B v x
  | .val d, h => At.le s d v h
  | .obj j, ⟨a, e, h⟩ => ⟨a, by
      obtain ⟨t, rfl⟩ := p
      have hj := (List.getElem?_eq_some_iff.mp e).1
      rw [List.getElem?_append_left hj]
      exact e, h⟩
  | .kn ds, ⟨a, xs, e, h1, h2⟩ => ⟨a, xs, e, sqL_le s h1, AtL.le s ds xs h2⟩
  | .exc _, h => h
/-- a dict's pairs -/
inductive KvAt (K : PySem.W.Frag) (F : Hp) : List (L2.Key × D) → List (L2.Key × V) → Prop
  | nil : KvAt K F [] []
  | cons {k : L2.Key} {d : D} {v : V} {kvs : List (L2.Key × D)} {vs : List (L2.Key × V)} : At K F d v → KvAt K F kvs vs → KvAt K F ((k, d) :: kvs) ((k, v) :: vs)
theorem KvAt.le {K : PySem.W.Frag} {F G : Hp} (s : Le F G) {kvs : List (L2.Key × D)} {vs : List (L2.Key × V)} (h : KvAt K F kvs vs) : KvAt K G kvs vs := by
  induction h with
  | nil => exact .nil
  | cons h _ ih => exact .cons (At.le s _ _ h) ih
inductive MoAt (A : List Addr) : List (L2.Key × Nat) → List (L2.Key × V) → Prop
  | nil : MoAt A [] []
  | cons {k : L2.Key} {j : Nat} {a : Addr} {kvs : List (L2.Key × Nat)} {vs : List (L2.Key × V)} : A[j]? = some a → MoAt A kvs vs → MoAt A ((k, j) :: kvs) ((k, .ref a) :: vs)
theorem pfx_get {A B : List Addr} (p : A <+: B) {j : Nat} {a : Addr} (e : A[j]? = some a) : B[j]? = some a := by
  obtain ⟨t, rfl⟩ := p
  have hj := (List.getElem?_eq_some_iff.mp e).1
  rw [List.getElem?_append_left hj]
  exact e
theorem MoAt.le {A B : List Addr} (p : A <+: B) {kvs : List (L2.Key × Nat)} {vs : List (L2.Key × V)} (h : MoAt A kvs vs) : MoAt B kvs vs := by
  induction h with
  | nil => exact .nil
  | cons h _ ih => exact .cons (pfx_get p h) ih
/-- a thing of the store, by what stands at its address -/
def ObAt (K : PySem.W.Frag) (F : Hp) (A : List Addr) (h : Option HO) : Ob → Prop
  | .l ds => ∃ xs, h = some (.lst xs) ∧ AtL K F ds xs
  | .m kvs => ∃ vs, h = some (.dK vs) ∧ KvAt K F kvs vs
  | .mo kvs => ∃ vs, h = some (.dK vs) ∧ MoAt A kvs vs
  | .lk od vs kvs => h = some (.frz od (.dK vs)) ∧ KvAt K F kvs vs
theorem ObAt.le {K : PySem.W.Frag} {F G : Hp} {A B : List Addr} {h h' : Option HO} (s : Le F G) (p : A <+: B) (k : ∀ o, h = some o → h' = some o) : ∀ {ob : Ob}, ObAt K F A h ob → ObAt K G B h' ob
  | .l ds, ⟨xs, e, a⟩ => ⟨xs, k _ e, AtL.le s _ _ a⟩
  | .m kvs, ⟨vs, e, a⟩ => ⟨vs, k _ e, a.le s⟩
  | .mo kvs, ⟨vs, e, a⟩ => ⟨vs, k _ e, a.le p⟩
  | .lk od vs kvs, ⟨e, a⟩ => ⟨k _ e, a.le s⟩
theorem ObAt.some {K : PySem.W.Frag} {F : Hp} {A : List Addr} {h : Option HO} : ∀ {ob : Ob}, ObAt K F A h ob → ∃ o, h = Option.some o
  | .l ds, ⟨xs, e, a⟩ => ⟨_, e⟩
  | .m kvs, ⟨vs, e, a⟩ => ⟨_, e⟩
  | .mo kvs, ⟨vs, e, a⟩ => ⟨_, e⟩
  | .lk od vs kvs, ⟨e, a⟩ => ⟨_, e⟩
def genNames : List Str := ["is_mark", "is_numbered", "read_spot", "is_tree", "has_form", "has_form_worlds", "which_live", "row_lives", "bars_by", "room_above", "sum_with", "is_place", "is_formed", "stand_once", "drop_name", "read_row", "is_number"]
/-- such a def's code object and its table -/
def TbAt (K : PySem.W.Frag) (nm : Str) (c P : Addr) : Prop := ∃ (f : Addr) (oc : Value) (od : Option Addr) (fd : FuncData) (sl : Array (Option Value)) (e : Value) (dd : Option Addr) (vs : Array Value) (sx : Array (Option Value)),
  PySem.W.nsIn K mainGlobals nm = some (some (.ref f)) ∧ K.lookup f = some ⟨oc, od, .func fd, sl⟩ ∧ fd.code = .ref c ∧ K.lookup c = some ⟨e, dd, .fields vs, sx⟩ ∧ vs[11]? = some (.ref P)
def TbK (K : PySem.W.Frag) (P : Addr) : Prop := ∃ nm ∈ genNames, ∃ c, TbAt K nm c P
/-- the tables stand apart from all else -/
structure Tbs (K : PySem.W.Frag) (R F H : Hp) (A : List Addr) : Prop where
  of : ∀ P, TbK K P → GxR.TabG H P ∧ F P = none ∧ R P = none ∧ P ∉ A
theorem Tbs.mk' {K : PySem.W.Frag} {R F H R' F' H' : Hp} {A A' : List Addr} (t : Tbs K R F H A) (h : ∀ P ps, H P = some (.tbl ps) → F P = none → R P = none → P ∉ A → H' P = H P ∧ F' P = none ∧ R' P = none ∧ P ∉ A') : Tbs K R' F' H' A' := ⟨fun P hP => by
  obtain ⟨⟨ps, h1, h2⟩, h3, h4, h5⟩ := t.of P hP
  obtain ⟨g1, g2, g3, g4⟩ := h P ps h1 h3 h4 h5
  exact ⟨⟨ps, g1.trans h1, h2⟩, g2, g3, g4⟩⟩
theorem tbl_ne {H : Hp} {P p : Addr} {ps : Array Value} (h : H P = some (.tbl ps)) (hp : H p = none) : P ≠ p := fun e => by
  rw [e, hp] at h
  cases h
section
variable {K : PySem.W.Frag} {R F H : Hp} {A : List Addr} {p a : Addr} {o o' : HO}
theorem Tbs.fresh (t : Tbs K R F H A) (hp : H p = none) : Tbs K R (upd F p o) (upd H p o) A := t.mk' fun P ps h f r n => ⟨upd_ne (tbl_ne h hp), (upd_ne (tbl_ne h hp)).trans f, r, n⟩
theorem Tbs.alloc (t : Tbs K R F H A) (hp : H p = none) : Tbs K R F (upd H p o) (A ++ [p]) := t.mk' fun P ps h f r n => ⟨upd_ne (tbl_ne h hp), f, r, fun z => by
  rcases List.mem_append.mp z with z | z
  · exact n z
  · exact tbl_ne h hp (List.mem_singleton.mp z)⟩
theorem Tbs.write (t : Tbs K R F H A) (ha : a ∈ A) : Tbs K R F (upd H a o) A := t.mk' fun P ps h f r n => ⟨upd_ne fun z : P = a => n (by rw [z]; exact ha), f, r, n⟩
theorem Tbs.freeze (t : Tbs K R F H A) (ha : a ∈ A) : Tbs K R (upd F a o) H A := t.mk' fun P ps h f r n => ⟨rfl, (upd_ne fun z : P = a => n (by rw [z]; exact ha)).trans f, r, n⟩
theorem Tbs.sub {A' : List Addr} (t : Tbs K R F H A) (h : ∀ a ∈ A', a ∈ A) : Tbs K R F H A' := t.mk' fun P ps g f r n => ⟨rfl, f, r, fun z => n (h P z)⟩
theorem Tbs.hold (t : Tbs K R F H A) (hp : H p = none) : Tbs K (upd R p o) F (upd H p o) A := t.mk' fun P ps h f r n => ⟨upd_ne (tbl_ne h hp), f, (upd_ne (tbl_ne h hp)).trans r, n⟩
theorem upd_none {p P : Addr} {o : HO} (h : upd R p o P = none) : P ≠ p := fun e => by
  rw [e, upd_same] at h
  cases h
theorem Tbs.rehold (t : Tbs K (upd R p o) F H A) : Tbs K (upd R p o') F (upd H p o') A := t.mk' fun P ps h f r n => by
  have ne := upd_none r
  rw [upd_ne ne] at r
  exact ⟨upd_ne ne, f, (upd_ne ne).trans r, n⟩
theorem Tbs.give (t : Tbs K (upd R p o) F H A) : Tbs K R (upd F p o) H A := t.mk' fun P ps h f r n => by
  have ne := upd_none r
  rw [upd_ne ne] at r
  exact ⟨rfl, (upd_ne ne).trans f, r, n⟩
theorem Tbs.giveOb (t : Tbs K (upd R p o) F H A) : Tbs K R F H (A ++ [p]) := t.mk' fun P ps h f r n => by
  have ne := upd_none r
  rw [upd_ne ne] at r
  exact ⟨rfl, f, r, fun z => by
    rcases List.mem_append.mp z with z | z
    · exact n z
    · exact ne (List.mem_singleton.mp z)⟩
theorem Tbs.adopt (t : Tbs K R F H A) (h : H p = some o) (no : ∀ ps, o ≠ .tbl ps) : Tbs K (upd R p o) F H A := t.mk' fun P ps g f r n => by
  have ne : P ≠ p := fun e => by
    rw [e, h] at g
    exact no ps (Option.some.inj g)
  exact ⟨rfl, f, (upd_ne ne).trans r, n⟩
end
/-- how names, store and heap stand: F what stands still, R what the callers keep, A where the store's lists lie -/
structure Rep (K : PySem.W.Frag) (R F : Hp) (A : List Addr) (σ : List (Option V)) (H : Hp) (e : En) : Prop where
  sub : Le F H
  keep : Le R H
  apart : ∀ a o, R a = some o → F a = none ∧ a ∉ A
  len : e.sl.length = σ.length
  lenA : e.st.length = A.length
  nodup : A.Nodup
  live : ∀ a ∈ A, ∃ o, H a = some o
  slot : ∀ (i : Nat) (s : Sl), e.sl[i]? = some (some s) → ∃ v, σ[i]? = some (some v) ∧ SlAt K F A v s
  store : ∀ (j : Nat) (ob : Ob), e.st[j]? = some (some ob) → ∃ a, A[j]? = some a ∧ F a = none ∧ ObAt K F A (H a) ob
  tabs : Tbs K R F H A
section
variable {K : PySem.W.Frag} {R F : Hp} {A : List Addr} {σ : L2.St} {H : Hp} {e : En}
theorem Rep.lst (r : Rep K R F A σ H e) {j : Nat} {ds : List D} (h : e.st[j]? = some (some (.l ds))) : ∃ a xs, A[j]? = some a ∧ F a = none ∧ H a = some (.lst xs) ∧ AtL K F ds xs := by
  obtain ⟨a, h1, h2, xs, h3, h4⟩ := r.store j _ h
  exact ⟨a, xs, h1, h2, h3, h4⟩
theorem pfx_refl (A : List Addr) : A <+: A := List.prefix_refl A
theorem nodup_at {A : List Addr} (h : A.Nodup) {i j : Nat} {a : Addr} (e : A[i]? = some a) (f : A[j]? = some a) : i = j := by
  obtain ⟨hi, ei⟩ := List.getElem?_eq_some_iff.mp e
  obtain ⟨hj, ej⟩ := List.getElem?_eq_some_iff.mp f
  exact (List.getElem_inj h).mp (ei.trans ej.symm)
/-- a new thing that stands still -/
theorem Rep.fresh (r : Rep K R F A σ H e) {p : Addr} (hp : H p = none) (o : HO) : Rep K R (upd F p o) A σ (upd H p o) e ∧ Le F (upd F p o) := by
  have hF : F p = none := r.sub.free hp
  have hR : R p = none := r.keep.free hp
  have hA : p ∉ A := fun hm => by
    obtain ⟨o, ho⟩ := r.live p hm
    rw [ho] at hp
    cases hp
  have l := Le.new (o := o) hF
  have l2 := Le.new (o := o) hp
  refine ⟨⟨fun b u z => ?_, Le.trans r.keep l2, fun a u z => ⟨?_, (r.apart a u z).2⟩, r.len, r.lenA, r.nodup, fun a ha => ?_, fun i s z => ?_, fun j ds z => ?_, r.tabs.fresh hp⟩, l⟩
  · by_cases hb : b = p
    · subst hb
      rw [upd_same] at z ⊢
      exact z
    · rw [upd_ne hb] at z ⊢
      exact r.sub _ _ z
  · rw [upd_ne (fun q => by rw [q, hR] at z; cases z)]
    exact (r.apart a u z).1
  · obtain ⟨u, hu⟩ := r.live a ha
    exact ⟨u, l2 _ _ hu⟩
  · obtain ⟨v, h1, h2⟩ := r.slot i s z
    exact ⟨v, h1, h2.le l (pfx_refl A)⟩
  · obtain ⟨a, h1, h2, h3⟩ := r.store j ds z
    refine ⟨a, h1, ?_, h3.le l (pfx_refl A) fun u e => l2 _ _ e⟩
    have n : a ≠ p := fun q => hA (by rw [← q]; exact List.mem_of_getElem? h1)
    rw [upd_ne n]
    exact h2
/-- a new thing of the store -/
theorem Rep.allocO (r : Rep K R F A σ H e) {p : Addr} (hp : H p = none) {o : HO} {ob : Ob} (hx : ObAt K F (A ++ [p]) (some o) ob) : Rep K R F (A ++ [p]) σ (upd H p o) ⟨e.sl, e.st ++ [some ob]⟩ ∧ A <+: A ++ [p] := by
  have hF : F p = none := r.sub.free hp
  have hR : R p = none := r.keep.free hp
  have hA : p ∉ A := fun hm => by
    obtain ⟨o, ho⟩ := r.live p hm
    rw [ho] at hp
    cases hp
  have l2 := Le.new (o := o) hp
  have pf : A <+: A ++ [p] := ⟨[p], rfl⟩
  refine ⟨⟨Le.trans r.sub l2, Le.trans r.keep l2, fun a u z => ⟨(r.apart a u z).1, fun hm => ?_⟩, r.len, ?_, ?_, fun a ha => ?_, fun i s z => ?_, fun j cs z => ?_, r.tabs.alloc hp⟩, pf⟩
  · rcases List.mem_append.mp hm with hm | hm
    · exact (r.apart a u z).2 hm
    · rw [List.mem_singleton.mp hm, hR] at z
      cases z
  · simp [r.lenA]
  · rw [List.nodup_append]
    exact ⟨r.nodup, by simp, fun a ha b hb q => hA (by rw [List.mem_singleton.mp hb] at q; exact q ▸ ha)⟩
  · rcases List.mem_append.mp ha with ha | ha
    · obtain ⟨u, hu⟩ := r.live a ha
      exact ⟨u, l2 _ _ hu⟩
    · rw [List.mem_singleton.mp ha]
      exact ⟨_, upd_same⟩
  · obtain ⟨v, h1, h2⟩ := r.slot i s z
    exact ⟨v, h1, h2.le (Le.refl F) pf⟩
  · have z' : (e.st ++ [some ob])[j]? = some (some cs) := z
    by_cases hj : j < e.st.length
    · rw [List.getElem?_append_left hj] at z'
      obtain ⟨a, h1, h2, h3⟩ := r.store j cs z'
      exact ⟨a, pfx_get pf h1, h2, h3.le (Le.refl F) pf fun u e => l2 _ _ e⟩
    · rw [List.getElem?_append_right (by omega)] at z'
      have hj0 : j - e.st.length = 0 := by
        rcases Nat.eq_zero_or_pos (j - e.st.length) with q | q
        · exact q
        · rw [List.getElem?_eq_none (by simp; omega)] at z'
          cases z'
      rw [hj0] at z'
      simp at z'
      subst z'
      refine ⟨p, ?_, hF, ?_⟩
      · rw [List.getElem?_append_right (by rw [← r.lenA]; omega), ← r.lenA, hj0] <;> rfl
      · rw [upd_same]
        exact hx
theorem Rep.alloc (r : Rep K R F A σ H e) {p : Addr} (hp : H p = none) {xs : List V} {ds : List D} (hx : AtL K F ds xs) : Rep K R F (A ++ [p]) σ (upd H p (.lst xs)) ⟨e.sl, e.st ++ [some (.l ds)]⟩ ∧ A <+: A ++ [p] := r.allocO hp (o := .lst xs) (ob := .l ds) ⟨xs, rfl, hx⟩
/-- the j-th thing of the store is changed -/
theorem Rep.writeO (r : Rep K R F A σ H e) {j : Nat} {a : Addr} {ob : Ob} (hj : A[j]? = some a) (hl : e.st[j]? = some (some ob)) {o : HO} {ob' : Ob} (hx : ObAt K F A (some o) ob') :
    Rep K R F A σ (upd H a o) ⟨e.sl, e.st.set j (some ob')⟩ := by
  obtain ⟨a', e1, hF, hH⟩ := r.store j ob hl
  rw [hj] at e1
  cases e1
  have hjl : j < e.st.length := (List.getElem?_eq_some_iff.mp hl).1
  have hm : a ∈ A := List.mem_of_getElem? hj
  refine ⟨fun b u z => ?_, fun b u z => ?_, r.apart, r.len, by simp [r.lenA], r.nodup, fun b hb => ?_, r.slot, fun i cs z => ?_, r.tabs.write hm⟩
  · rw [upd_ne (fun q => by rw [q, hF] at z; cases z)]
    exact r.sub _ _ z
  · have n : b ≠ a := fun q => (r.apart b u z).2 (by rw [q]; exact hm)
    rw [upd_ne n]
    exact r.keep _ _ z
  · by_cases q : b = a
    · subst q
      exact ⟨_, upd_same⟩
    · rw [upd_ne q]
      exact r.live b hb
  · have z' : (e.st.set j (some ob'))[i]? = some (some cs) := z
    by_cases q : i = j
    · subst q
      rw [List.getElem?_set_self hjl] at z'
      cases z'
      exact ⟨a, hj, hF, by rw [upd_same]; exact hx⟩
    · rw [List.getElem?_set_ne (Ne.symm q)] at z'
      obtain ⟨b, h1, h2, h3⟩ := r.store i cs z'
      have n : b ≠ a := fun w => q (nodup_at r.nodup (by rw [← w]; exact h1) hj)
      exact ⟨b, h1, h2, by rw [upd_ne n]; exact h3⟩
theorem Rep.write (r : Rep K R F A σ H e) {j : Nat} {a : Addr} {ds : List D} (hj : A[j]? = some a) (hl : e.st[j]? = some (some (.l ds))) {xs' : List V} {ds' : List D} (hx : AtL K F ds' xs') :
    Rep K R F A σ (upd H a (.lst xs')) ⟨e.sl, e.st.set j (some (.l ds'))⟩ := r.writeO hj hl (o := .lst xs') (ob' := .l ds') ⟨xs', rfl, hx⟩
/-- a name is given a value -/
theorem Rep.put (r : Rep K R F A σ H e) {i : Nat} {v : V} {s : Sl} (h : SlAt K F A v s) : Rep K R F A (σ.set i (some v)) H ⟨e.sl.set i (some s), e.st⟩ := by
  refine ⟨r.sub, r.keep, r.apart, by simp [r.len], r.lenA, r.nodup, r.live, fun k t z => ?_, r.store, r.tabs⟩
  have z' : (e.sl.set i (some s))[k]? = some (some t) := z
  by_cases q : k = i
  · subst q
    have hk : k < e.sl.length := by
      have := (List.getElem?_eq_some_iff.mp z').1
      simpa using this
    rw [List.getElem?_set_self hk] at z'
    cases z'
    exact ⟨v, by rw [List.getElem?_set_self (by rw [← r.len]; exact hk)], h⟩
  · rw [List.getElem?_set_ne (Ne.symm q)] at z'
    obtain ⟨u, h1, h2⟩ := r.slot k t z'
    exact ⟨u, by rw [List.getElem?_set_ne (Ne.symm q)]; exact h1, h2⟩
/-- the names that hold the j-th list hold data from now on -/
def thaw (j : Nat) (ds : List D) : Option Sl → Option Sl
  | some (.obj i) => if i = j then some (.val (.list ds)) else some (.obj i)
  | s => s
def En.kill (e : En) (j : Nat) (ds : List D) : En := ⟨e.sl.map (thaw j ds), e.st.set j none⟩
theorem Rep.freeze (r : Rep K R F A σ H e) {j : Nat} {ds : List D} (hl : e.st[j]? = some (some (.l ds))) :
    ∃ a xs, A[j]? = some a ∧ Rep K R (upd F a (.lst xs)) A σ H (e.kill j ds) ∧ Le F (upd F a (.lst xs)) ∧ At K (upd F a (.lst xs)) (.list ds) (.ref a) := by
  obtain ⟨a, xs, hj, hF, hH, hx⟩ := r.lst hl
  have hm : a ∈ A := List.mem_of_getElem? hj
  have l := Le.new (o := .lst xs) hF
  have hat : At K (upd F a (.lst xs)) (.list ds) (.ref a) := .lst upd_same (AtL.le l _ _ hx)
  refine ⟨a, xs, hj, ⟨fun b u z => ?_, r.keep, fun b u z => ⟨?_, (r.apart b u z).2⟩, by simp [En.kill, r.len], by simp [En.kill, r.lenA], r.nodup, r.live, fun i s z => ?_, fun i cs z => ?_, r.tabs.freeze hm⟩, l, hat⟩
  · by_cases hb : b = a
    · subst hb
      rw [upd_same] at z
      cases z
      exact hH
    · rw [upd_ne hb] at z
      exact r.sub _ _ z
  · have n : b ≠ a := fun q => (r.apart b u z).2 (by rw [q]; exact hm)
    rw [upd_ne n]
    exact (r.apart b u z).1
  · have z' : (e.sl.map (thaw j ds))[i]? = some (some s) := z
    rw [List.getElem?_map] at z'
    obtain ⟨t, ht, hs⟩ := Option.map_eq_some_iff.mp z'
    cases t with
    | none => cases hs
    | some t =>
      cases t with
      | val d =>
        cases hs
        obtain ⟨v, h1, h2⟩ := r.slot i _ ht
        exact ⟨v, h1, h2.le l (pfx_refl A)⟩
      | kn d =>
        cases hs
        obtain ⟨v, h1, h2⟩ := r.slot i _ ht
        exact ⟨v, h1, SlAt.le (x := .kn d) l (pfx_refl A) h2⟩
      | exc d =>
        cases hs
        obtain ⟨v, h1, h2⟩ := r.slot i _ ht
        exact ⟨v, h1, h2⟩
      | obj k =>
        obtain ⟨v, h1, b, hb, hv⟩ := r.slot i _ ht
        have hs' : (if k = j then some (Sl.val (.list ds)) else some (Sl.obj k)) = some s := hs
        split at hs'
        · rename_i q
          cases hs'
          subst q
          rw [hj] at hb
          cases hb
          exact ⟨v, h1, by rw [hv]; exact hat⟩
        · cases hs'
          exact ⟨v, h1, b, hb, hv⟩
  · have z' : (e.st.set j none)[i]? = some (some cs) := z
    have hjl : j < e.st.length := (List.getElem?_eq_some_iff.mp hl).1
    by_cases q : i = j
    · subst q
      rw [List.getElem?_set_self hjl] at z'
      cases z'
    · rw [List.getElem?_set_ne (Ne.symm q)] at z'
      obtain ⟨b, h1, h2, h3⟩ := r.store i cs z'
      refine ⟨b, h1, ?_, h3.le l (pfx_refl A) fun _ e => e⟩
      have n : b ≠ a := fun w => q (nodup_at r.nodup (by rw [← w]; exact h1) hj)
      rw [upd_ne n]
      exact h2
/-- a name's value is forgotten -/
theorem Rep.weak (r : Rep K R F A σ H e) {σ' : L2.St} {sl : List (Option Sl)} (hl : sl.length = σ'.length) (h : ∀ (i : Nat) (s : Sl), sl[i]? = some (some s) → ∃ v, σ'[i]? = some (some v) ∧ SlAt K F A v s) : Rep K R F A σ' H ⟨sl, e.st⟩ :=
  ⟨r.sub, r.keep, r.apart, hl, r.lenA, r.nodup, r.live, h, r.store, r.tabs⟩
end
end Vl
namespace Vl
open PySem L2
abbrev KE := Sl → En → Prop
abbrev VTE := En → KE → Prop
abbrev VTT := En → (Bool → En → Prop) → Prop
abbrev VTA := En → (List Sl → En → Prop) → Prop
def Fin (K : PySem.W.Frag) (R F : Hp) (A : List Addr) (σ : L2.St) (Kp : KE) (Q : VK) : Prop := ∀ s e' v F' A' H', Kp s e' → Le F F' → A <+: A' → Rep K R F' A' σ H' e' → SlAt K F' A' v s → Q v H'
def liftE (K : PySem.W.Frag) (t : VTE) : TE := fun σ H Q => ∃ R F A e Kp, Rep K R F A σ H e ∧ t e Kp ∧ Fin K R F A σ Kp Q
def FinT (K : PySem.W.Frag) (R F : Hp) (A : List Addr) (σ : L2.St) (Kp : Bool → En → Prop) (Q : Bool → Hp → Prop) : Prop := ∀ b e' F' A' H', Kp b e' → Le F F' → A <+: A' → Rep K R F' A' σ H' e' → Q b H'
def liftT (K : PySem.W.Frag) (t : VTT) : TT := fun σ H Q => ∃ R F A e Kp, Rep K R F A σ H e ∧ t e Kp ∧ FinT K R F A σ Kp Q
inductive SlAts (K : PySem.W.Frag) (F : Hp) (A : List Addr) : List V → List Sl → Prop
  | nil : SlAts K F A [] []
  | cons {v : V} {vs : List V} {s : Sl} {ss : List Sl} : SlAt K F A v s → SlAts K F A vs ss → SlAts K F A (v :: vs) (s :: ss)
theorem SlAts.le {K : PySem.W.Frag} {F G : Hp} {A B : List Addr} (s : Le F G) (p : A <+: B) {vs : List V} {ss : List Sl} (h : SlAts K F A vs ss) : SlAts K G B vs ss := by
  induction h with
  | nil => exact .nil
  | cons h _ ih => exact .cons (h.le s p) ih
theorem SlAts.len {K : PySem.W.Frag} {F : Hp} {A : List Addr} {vs : List V} {ss : List Sl} (h : SlAts K F A vs ss) : vs.length = ss.length := by
  induction h with
  | nil => rfl
  | cons h _ ih => simp [ih]
def FinA (K : PySem.W.Frag) (R F : Hp) (A : List Addr) (σ : L2.St) (Kp : List Sl → En → Prop) (Q : List V → Hp → Prop) : Prop := ∀ ss e' vs F' A' H', Kp ss e' → Le F F' → A <+: A' → Rep K R F' A' σ H' e' → SlAts K F' A' vs ss → Q vs H'
def liftA (K : PySem.W.Frag) (t : VTA) : TA := fun σ H Q => ∃ R F A e Kp, Rep K R F A σ H e ∧ t e Kp ∧ FinA K R F A σ Kp Q
/-- the judgements -/
def VE (X : Cx) (ex : Expr) (t : VTE) : Prop := PE X ex (liftE X.K t)
def VT (X : Cx) (ex : Expr) (t : VTT) : Prop := PT X ex (liftT X.K t)
def VW (X : Cx) (ex : Expr) (t : VTT) : Prop := PW X ex (liftT X.K t)
def VA (X : Cx) (es : List Expr) (t : VTA) : Prop := PA X es (liftA X.K t)
theorem PE.imp {X : Cx} {ex : Expr} {t t' : TE} (h : PE X ex t) (f : ∀ σ H Q, t' σ H Q → t σ H Q) : PE X ex t' := ⟨fun pins s σ H Q I q => h.run pins s σ H Q I (f σ H Q q)⟩
theorem PT.imp {X : Cx} {ex : Expr} {t t' : TT} (h : PT X ex t) (f : ∀ σ H Q, t' σ H Q → t σ H Q) : PT X ex t' := ⟨fun pins s σ H Q I q => h.run pins s σ H Q I (f σ H Q q)⟩
theorem PW.imp {X : Cx} {ex : Expr} {t t' : TT} (h : PW X ex t) (f : ∀ σ H Q, t' σ H Q → t σ H Q) : PW X ex t' := ⟨fun wh pins s σ H Q I q => h.run wh pins s σ H Q I (f σ H Q q)⟩
theorem PA.imp {X : Cx} {ex : List Expr} {t t' : TA} (h : PA X ex t) (f : ∀ σ H Q, t' σ H Q → t σ H Q) : PA X ex t' := ⟨fun pos pins s σ H Q I q => h.run pos pins s σ H Q I (f σ H Q q)⟩
theorem PS.imp {X : Cx} {ex : Stmt} {t t' : TS} (h : PS X ex t) (f : ∀ D σ H, t' D σ H → t D σ H) : PS X ex t' := ⟨fun pins s σ H D I q => h.run pins s σ H D I (f D σ H q)⟩
theorem PSs.imp {X : Cx} {ex : List Stmt} {t t' : TS} (h : PSs X ex t) (f : ∀ D σ H, t' D σ H → t D σ H) : PSs X ex t' := ⟨fun pins s σ H D I q => h.run pins s σ H D I (f D σ H q)⟩
section
variable {K : PySem.W.Frag} {R F : Hp} {A : List Addr} {σ : L2.St} {H : Hp} {e : En} {Kp : KE} {Q : VK}
theorem Fin.tr {F1 : Hp} {A1 : List Addr} (f : Fin K R F A σ Kp Q) (a : Le F F1) (b : A <+: A1) : Fin K R F1 A1 σ Kp Q := fun s e' v F' A' H' k h1 h2 => f s e' v F' A' H' k (a.trans h1) (b.trans h2)
theorem FinT.tr {Kp : Bool → En → Prop} {Q : Bool → Hp → Prop} {F1 : Hp} {A1 : List Addr} (f : FinT K R F A σ Kp Q) (a : Le F F1) (b : A <+: A1) : FinT K R F1 A1 σ Kp Q := fun s e' F' A' H' k h1 h2 => f s e' F' A' H' k (a.trans h1) (b.trans h2)
theorem FinA.tr {Kp : List Sl → En → Prop} {Q : List V → Hp → Prop} {F1 : Hp} {A1 : List Addr} (f : FinA K R F A σ Kp Q) (a : Le F F1) (b : A <+: A1) : FinA K R F1 A1 σ Kp Q := fun s e' v F' A' H' k h1 h2 => f s e' v F' A' H' k (a.trans h1) (b.trans h2)
/-- an answer is ready -/
theorem Fin.done (f : Fin K R F A σ Kp Q) (r : Rep K R F A σ H e) {s : Sl} {v : V} (k : Kp s e) (h : SlAt K F A v s) : Q v H := f s e v F A H k (Le.refl F) (pfx_refl A) r h
theorem Fin.val (f : Fin K R F A σ Kp Q) (r : Rep K R F A σ H e) {d : D} {v : V} (k : Kp (.val d) e) (h : At K F d v) : Q v H := f.done r (s := .val d) k h
theorem Fin.newT (f : Fin K R F A σ Kp Q) (r : Rep K R F A σ H e) {ds : List D} {xs : List V} {p : Addr} (hp : H p = none) (k : Kp (.val (.tuple ds)) e) (h : AtL K F ds xs) : Q (.ref p) (upd H p (.tup xs)) := by
  obtain ⟨r2, l⟩ := r.fresh hp (.tup xs)
  exact f (.val (.tuple ds)) e (.ref p) _ A _ k l (pfx_refl A) r2 (.tup (SqT.of upd_same) (AtL.le l _ _ h))
theorem Fin.newL (f : Fin K R F A σ Kp Q) (r : Rep K R F A σ H e) {ds : List D} {xs : List V} {p : Addr} (hp : H p = none) (k : Kp (.val (.list ds)) e) (h : AtL K F ds xs) : Q (.ref p) (upd H p (.lst xs)) := by
  obtain ⟨r2, l⟩ := r.fresh hp (.lst xs)
  exact f (.val (.list ds)) e (.ref p) _ A _ k l (pfx_refl A) r2 (.lst upd_same (AtL.le l _ _ h))
theorem Fin.newO (f : Fin K R F A σ Kp Q) (r : Rep K R F A σ H e) {ds : List D} {xs : List V} {p : Addr} (hp : H p = none) (k : Kp (.obj e.st.length) ⟨e.sl, e.st ++ [some (.l ds)]⟩) (h : AtL K F ds xs) : Q (.ref p) (upd H p (.lst xs)) := by
  obtain ⟨r2, l⟩ := r.alloc hp h
  refine f (.obj e.st.length) _ (.ref p) F _ _ k (Le.refl F) l r2 ⟨p, ?_, rfl⟩
  rw [r.lenA, List.getElem?_append_right (Nat.le_refl _), Nat.sub_self] <;> rfl
end
/-- what stands there now -/
def pk (s : Sl) (e : En) : Option D := match s with
  | .val d => some d
  | .kn ds => some (.list ds)
  | .exc _ => none
  | .obj j => match e.st[j]? with
    | some (some (.l ds)) => some (.list ds)
    | _ => none
/-- the same, of what may be put together -/
def pkm (s : Sl) (e : En) : Option D := match s with
  | .val d => some d
  | .kn _ => none
  | .exc _ => none
  | .obj j => match e.st[j]? with
    | some (some (.l ds)) => some (.list ds)
    | _ => none
def Pk (K : PySem.W.Frag) (F H : Hp) (v : V) : D → Prop
  | .list ds => ∃ a xs, v = .ref a ∧ SqL K H a xs ∧ AtL K F ds xs
  | d => At K F d v
def Pkm (K : PySem.W.Frag) (F H : Hp) (v : V) : D → Prop
  | .list ds => ∃ a xs, v = .ref a ∧ H a = some (.lst xs) ∧ AtL K F ds xs
  | d => At K F d v
section
variable {K : PySem.W.Frag} {R F : Hp} {A : List Addr} {σ : L2.St} {H : Hp} {e : En}
theorem Pk.of_at (s : Le F H) {v : V} : ∀ {d : D}, At K F d v → Pk K F H v d
  | .list ds, h => by
    cases h with
    | lst h1 h2 => exact ⟨_, _, rfl, SqL.of (s _ _ h1), h2⟩
  | .none, h => h
  | .bool _, h => h
  | .int _, h => h
  | .str _, h => h
  | .tuple _, h => h
  | .dict _, h => h
theorem Pkm.of_at (s : Le F H) {v : V} : ∀ {d : D}, At K F d v → Pkm K F H v d
  | .list ds, h => by
    cases h with
    | lst h1 h2 => exact ⟨_, _, rfl, s _ _ h1, h2⟩
  | .none, h => h
  | .bool _, h => h
  | .int _, h => h
  | .str _, h => h
  | .tuple _, h => h
  | .dict _, h => h
theorem Rep.pk (r : Rep K R F A σ H e) {v : V} {s : Sl} (h : SlAt K F A v s) {d : D} (q : pk s e = some d) : Pk K F H v d := by
  cases s with
  | val c =>
    cases q
    exact Pk.of_at r.sub h
  | kn ds =>
    cases q
    obtain ⟨a, xs, e1, h1, h2⟩ := h
    exact ⟨a, xs, e1, sqL_le r.sub h1, h2⟩
  | exc d => cases q
  | obj j =>
    obtain ⟨a, e1, e2⟩ := h
    replace q : (match e.st[j]? with | some (some (.l ds)) => some (PyData.list ds) | _ => none) = some d := q
    split at q
    · rename_i ds hd
      cases q
      obtain ⟨b, xs, h1, h2, h3, h4⟩ := r.lst hd
      rw [e1] at h1
      cases h1
      exact ⟨a, xs, e2, SqL.of h3, h4⟩
    · cases q
theorem Rep.pkm (r : Rep K R F A σ H e) {v : V} {s : Sl} (h : SlAt K F A v s) {d : D} (q : pkm s e = some d) : Pkm K F H v d := by
  cases s with
  | val c =>
    cases q
    exact Pkm.of_at r.sub h
  | kn ds => cases q
  | exc d => cases q
  | obj j =>
    obtain ⟨a, e1, e2⟩ := h
    replace q : (match e.st[j]? with | some (some (.l ds)) => some (PyData.list ds) | _ => none) = some d := q
    split at q
    · rename_i ds hd
      cases q
      obtain ⟨b, xs, h1, h2, h3, h4⟩ := r.lst hd
      rw [e1] at h1
      cases h1
      exact ⟨a, xs, e2, h3, h4⟩
    · cases q
theorem Pk.int {v : V} {i : Int} (h : Pk K F H v (.int i)) : v = .int i := by
  cases (show At K F (.int i) v from h)
  rfl
theorem Pk.str {v : V} {i : Str} (h : Pk K F H v (.str i)) : v = .str i := by
  cases (show At K F (.str i) v from h)
  rfl
theorem Pk.bool {v : V} {i : Bool} (h : Pk K F H v (.bool i)) : v = .bl i := by
  cases (show At K F (.bool i) v from h)
  rfl
theorem Pk.none {v : V} (h : Pk K F H v .none) : v = .non := by
  cases (show At K F .none v from h)
  rfl
theorem Pk.tup {v : V} {ds : List D} (h : Pk K F H v (.tuple ds)) : ∃ a xs, v = .ref a ∧ SqT K F a xs ∧ AtL K F ds xs := by
  cases (show At K F (.tuple ds) v from h) with
  | tup h1 h2 => exact ⟨_, _, rfl, h1, h2⟩
theorem Pkm.int {v : V} {i : Int} (h : Pkm K F H v (.int i)) : v = .int i := by
  cases (show At K F (.int i) v from h)
  rfl
theorem Pkm.str {v : V} {i : Str} (h : Pkm K F H v (.str i)) : v = .str i := by
  cases (show At K F (.str i) v from h)
  rfl
theorem Pkm.tup {v : V} {ds : List D} (h : Pkm K F H v (.tuple ds)) : ∃ a xs, v = .ref a ∧ SqT K F a xs ∧ AtL K F ds xs := by
  cases (show At K F (.tuple ds) v from h) with
  | tup h1 h2 => exact ⟨_, _, rfl, h1, h2⟩
theorem Pk.dp (s : Le F H) {v : V} : ∀ {d : D}, PyData.canLay0 d = true → Pk K F H v d → Dp K H v d
  | .list ds, c, ⟨a, xs, e, h1, h2⟩ => by
    subst e
    exact .lst h1 (AtL.dp s _ _ (by rw [PyData.canLay0] at c; exact c) h2)
  | .none, c, h => At.dp s _ _ c h
  | .bool _, c, h => At.dp s _ _ c h
  | .int _, c, h => At.dp s _ _ c h
  | .str _, c, h => At.dp s _ _ c h
  | .tuple _, c, h => At.dp s _ _ c h
  | .dict _, c, h => At.dp s _ _ c h
end
def asD (s : Sl) (e : En) (Kd : D → En → Prop) : Prop := match s with
  | .val d => Kd d e
  | .kn _ => False
  | .exc _ => False
  | .obj j => match e.st[j]? with
    | some (some (.l ds)) => Kd (.list ds) (e.kill j ds)
    | _ => False
def asDs : List Sl → En → (List D → En → Prop) → Prop
  | [], e, Kd => Kd [] e
  | s :: ss, e, Kd => asD s e fun d e1 => asDs ss e1 fun ds e2 => Kd (d :: ds) e2
section
variable {K : PySem.W.Frag} {R F : Hp} {A : List Addr} {σ : L2.St} {H : Hp} {e : En}
theorem Rep.asD (r : Rep K R F A σ H e) {v : V} {s : Sl} (h : SlAt K F A v s) {Kd : D → En → Prop} (q : asD s e Kd) : ∃ d e' F', Kd d e' ∧ Rep K R F' A σ H e' ∧ Le F F' ∧ At K F' d v := by
  cases s with
  | val d => exact ⟨d, e, F, q, r, Le.refl F, h⟩
  | kn ds => exact q.elim
  | exc d => exact q.elim
  | obj j =>
    obtain ⟨a, e1, e2⟩ := h
    replace q : (match e.st[j]? with | some (some (.l ds)) => Kd (.list ds) (e.kill j ds) | _ => False) := q
    split at q
    · rename_i ds hd
      obtain ⟨b, xs, h1, h2, h3, h4⟩ := r.freeze hd
      rw [e1] at h1
      cases h1
      exact ⟨_, _, _, q, h2, h3, by rw [e2]; exact h4⟩
    · exact q.elim
theorem Rep.asDs {vs : List V} {ss : List Sl} : ∀ {F : Hp} {e : En}, Rep K R F A σ H e → SlAts K F A vs ss → ∀ {Kd : List D → En → Prop}, asDs ss e Kd → ∃ ds e' F', Kd ds e' ∧ Rep K R F' A σ H e' ∧ Le F F' ∧ AtL K F' ds vs := by
  induction ss generalizing vs with
  | nil =>
    intro F e r h Kd q
    cases h
    exact ⟨[], e, F, q, r, Le.refl F, .nil⟩
  | cons s ss ih =>
    intro F e r h Kd q
    cases h with
    | cons h1 h2 =>
      obtain ⟨d, e1, F1, q1, r1, l1, a1⟩ := r.asD h1 q
      obtain ⟨ds, e2, F2, q2, r2, l2, a2⟩ := ih r1 (h2.le l1 (pfx_refl A)) q1
      exact ⟨d :: ds, e2, F2, q2, r2, l1.trans l2, .cons (At.le l2 _ _ a1) a2⟩
end
def v2 (op : Sl → Sl → En → KE → Prop) (ta tb : VTE) : VTE := fun e Kp => ta e fun s1 e1 => tb e1 fun s2 e2 => op s1 s2 e2 Kp
def v1 (op : Sl → En → KE → Prop) (ta : VTE) : VTE := fun e Kp => ta e fun s1 e1 => op s1 e1 Kp
def Prim2 (K : PySem.W.Frag) (r : R2) (op : Sl → Sl → En → KE → Prop) : Prop := ∀ {R F : Hp} {A : List Addr} {σ : L2.St} {H : Hp} {e : En} {x y : V} {s1 s2 : Sl} {Kp : KE} {Q : VK}, Rep K R F A σ H e → SlAt K F A x s1 → SlAt K F A y s2 → op s1 s2 e Kp → Fin K R F A σ Kp Q → r x y H Q
def Prim1 (K : PySem.W.Frag) (r : V → Hp → VK → Prop) (op : Sl → En → KE → Prop) : Prop := ∀ {R F : Hp} {A : List Addr} {σ : L2.St} {H : Hp} {e : En} {x : V} {s1 : Sl} {Kp : KE} {Q : VK}, Rep K R F A σ H e → SlAt K F A x s1 → op s1 e Kp → Fin K R F A σ Kp Q → r x H Q
def PrimN (K : PySem.W.Frag) (r : List V → Hp → VK → Prop) (op : List Sl → En → KE → Prop) : Prop := ∀ {R F : Hp} {A : List Addr} {σ : L2.St} {H : Hp} {e : En} {xs : List V} {ss : List Sl} {Kp : KE} {Q : VK}, Rep K R F A σ H e → SlAts K F A xs ss → op ss e Kp → Fin K R F A σ Kp Q → r xs H Q
section
variable {X : Cx} {a b : Expr} {ta tb : VTE} {pos : Pos}
theorem lift2 {r : R2} {op : Sl → Sl → En → KE → Prop} (p : Prim2 X.K r op) (σ : L2.St) (H : Hp) (Q : VK) (h : liftE X.K (v2 op ta tb) σ H Q) : tOp r (liftE X.K ta) (liftE X.K tb) σ H Q := by
  obtain ⟨R, F, A, e, Kp, rep, ht, fin⟩ := h
  exact ⟨R, F, A, e, _, rep, ht, fun s1 e1 x F1 A1 H1 k1 f1 p1 rep1 at1 => ⟨R, F1, A1, e1, _, rep1, k1, fun s2 e2 y F2 A2 H2 k2 f2 p2 rep2 at2 => p rep2 (at1.le f2 p2) at2 k2 (fin.tr (f1.trans f2) (p1.trans p2))⟩⟩
theorem lift1 {r : V → Hp → VK → Prop} {op : Sl → En → KE → Prop} (p : Prim1 X.K r op) (σ : L2.St) (H : Hp) (Q : VK) (h : liftE X.K (v1 op ta) σ H Q) : liftE X.K ta σ H fun x H1 => r x H1 Q := by
  obtain ⟨R, F, A, e, Kp, rep, ht, fin⟩ := h
  exact ⟨R, F, A, e, _, rep, ht, fun s1 e1 x F1 A1 H1 k1 f1 p1 rep1 at1 => p rep1 at1 k1 (fin.tr f1 p1)⟩
def vN (op : List Sl → En → KE → Prop) (t : VTA) : VTE := fun e Kp => t e fun ss e1 => op ss e1 Kp
theorem liftN {r : List V → Hp → VK → Prop} {op : List Sl → En → KE → Prop} {t : VTA} (p : PrimN X.K r op) (σ : L2.St) (H : Hp) (Q : VK) (h : liftE X.K (vN op t) σ H Q) : liftA X.K t σ H fun xs H1 => r xs H1 Q := by
  obtain ⟨R, F, A, e, Kp, rep, ht, fin⟩ := h
  exact ⟨R, F, A, e, _, rep, ht, fun s1 e1 x F1 A1 H1 k1 f1 p1 rep1 at1 => p rep1 at1 k1 (fin.tr f1 p1)⟩
theorem ve_op {op : Operator} {r : R2} {o : Sl → Sl → En → KE → Prop} (p : Prim2 X.K r o) (ho : OpR X (binaryOp op) r) (ha : VE X a ta) (hb : VE X b tb) : VE X (.BinOp a op b pos) (v2 o ta tb) := PE.imp (pe_op ho ha hb) (lift2 p)
theorem ve_cmp {op : CmpOp} {r : R2} {o : Sl → Sl → En → KE → Prop} (p : Prim2 X.K r o) (ho : OpR X (compareOp op) r) (ha : VE X a ta) (hb : VE X b tb) (hm : behindInMarks op b = false) : VE X (.Compare a [op] [b] pos) (v2 o ta tb) := PE.imp (pe_cmpR ho ha hb hm) (lift2 p)
theorem ve_ixR {r : R2} {o : Sl → Sl → En → KE → Prop} (p : Prim2 X.K r o) (hr : IxR X r) (ha : VE X a ta) (hb : VE X b tb) (hs : PlainIx b) : VE X (.Subscript a b pos) (v2 o ta tb) := PE.imp (pe_ix hr ha hb hs) (lift2 p)
def vTest (t : VTE) : VTT := fun e Kp => t e fun s e1 => match pk s e1 with
  | some (.bool b) => Kp b e1
  | _ => False
theorem lift_test {t : VTE} (σ : L2.St) (H : Hp) (Q : Bool → Hp → Prop) (h : liftT X.K (vTest t) σ H Q) : liftE X.K t σ H fun x H' => ∃ k, x = .bl k ∧ Q k H' := by
  obtain ⟨R, F, A, e, Kp, rep, ht, fin⟩ := h
  refine ⟨R, F, A, e, _, rep, ht, fun s1 e1 x F1 A1 H1 k1 f1 p1 rep1 at1 => ?_⟩
  split at k1
  · rename_i b hb
    exact ⟨b, (rep1.pk at1 hb).bool, fin b e1 F1 A1 H1 k1 f1 p1 rep1⟩
  · exact k1.elim
theorem vt_cmp {op : CmpOp} {r : R2} {o : Sl → Sl → En → KE → Prop} (p : Prim2 X.K r o) (ho : OpR X (compareOp op) r) (ha : VE X a ta) (hb : VE X b tb) (hm : behindInMarks op b = false) : VT X (.Compare a [op] [b] pos) (vTest (v2 o ta tb)) :=
  PT.imp (pt_cmpR ho ha hb hm) fun σ H Q h => lift2 p σ H _ (by
    obtain ⟨R, F, A, e, Kp, rep, ht, fin⟩ := h
    refine ⟨R, F, A, e, _, rep, ht, fun s1 e1 x F1 A1 H1 k1 f1 p1 rep1 at1 => ?_⟩
    split at k1
    · rename_i b hb
      exact ⟨b, (rep1.pk at1 hb).bool, fin b e1 F1 A1 H1 k1 f1 p1 rep1⟩
    · exact k1.elim)
/-- an expression that gives a truth -/
theorem vt_val {ex : Expr} {t : VTE} (h : VE X ex t) (he : ∀ whole, isTrue ex X.env whole = (do let v ← whole; standAt ex.pos; holding [v] (truthy v)) := by intro _; rfl) : VT X ex (vTest t) := PT.imp (pt_val h he) fun σ H Q q => lift_test σ H Q q
/-- any value's truth -/
def truth : D → Option Bool
  | .none => some false
  | .bool b => some b
  | .int i => some (i != 0)
  | .str s => some ((s.length : Int) != 0)
  | .list ds => some (!ds.isEmpty)
  | .tuple ds => some (!ds.isEmpty)
  | .dict _ => none
def vTruth (t : VTE) : VTT := fun e Kp => t e fun s e1 => match pk s e1 with
  | some (.str x) => x.length ≤ sizeLine ∧ Kp ((x.length : Int) != 0) e1
  | some d => (match truth d with
    | some b => Kp b e1
    | none => False)
  | none => False
theorem empty_at {F : Hp} {ds : List D} {xs : List V} (h : AtL X.K F ds xs) : (!ds.isEmpty) = !xs.isEmpty := by
  cases h <;> rfl
theorem vt_truth {ex : Expr} {t : VTE} (h : VE X ex t) (he : ∀ whole, isTrue ex X.env whole = (do let v ← whole; standAt ex.pos; holding [v] (truthy v)) := by intro _; rfl) : VT X ex (vTruth t) := PT.imp (pt_truth h he) fun σ H Q q => by
  obtain ⟨R, F, A, e, Kp, rep, ht, fin⟩ := q
  refine ⟨R, F, A, e, _, rep, ht, fun s1 e1 x F1 A1 H1 k1 f1 p1 rep1 at1 => ?_⟩
  cases hp : pk s1 e1 with
  | none => rw [hp] at k1; exact k1.elim
  | some d =>
    rw [hp] at k1
    have pk1 := rep1.pk at1 hp
    cases d with
    | none => exact ⟨false, by rw [pk1.none]; rfl, fin _ e1 F1 A1 H1 k1 f1 p1 rep1⟩
    | bool b => exact ⟨b, by rw [pk1.bool]; rfl, fin _ e1 F1 A1 H1 k1 f1 p1 rep1⟩
    | int i => exact ⟨_, by rw [pk1.int]; rfl, fin _ e1 F1 A1 H1 k1 f1 p1 rep1⟩
    | str z => exact ⟨_, by rw [pk1.str]; exact ⟨k1.1, rfl⟩, fin _ e1 F1 A1 H1 k1.2 f1 p1 rep1⟩
    | list ds =>
      obtain ⟨a, xs, rfl, h1, h2⟩ := pk1
      exact ⟨_, .inl ⟨xs, h1, rfl⟩, by rw [← empty_at h2]; exact fin _ e1 F1 A1 H1 k1 f1 p1 rep1⟩
    | tuple ds =>
      obtain ⟨a, xs, rfl, h1, h2⟩ := pk1.tup
      exact ⟨_, .inr (.inl ⟨xs, sqT_le rep1.sub h1, rfl⟩), by rw [← empty_at h2]; exact fin _ e1 F1 A1 H1 k1 f1 p1 rep1⟩
    | dict _ => exact k1.elim
def vNotT (t : VTT) : VTT := fun e Kp => t e fun b e1 => Kp (!b) e1
theorem vt_not {t : VTT} (h : VT X a t) : VT X (.UnaryOp .Not a pos) (vNotT t) := PT.imp (pt_not h) fun σ H Q q => by
  obtain ⟨R, F, A, e, Kp, rep, ht, fin⟩ := q
  exact ⟨R, F, A, e, _, rep, ht, fun b e1 F1 A1 H1 k1 f1 p1 rep1 => fin _ e1 F1 A1 H1 k1 f1 p1 rep1⟩
def vAndT (t u : VTT) : VTT := fun e Kp => t e fun b e1 => if b = true then u e1 Kp else Kp false e1
def vOrT (t u : VTT) : VTT := fun e Kp => t e fun b e1 => if b = true then Kp true e1 else u e1 Kp
theorem vw_or1 {t : VTT} (h : VT X a t) : VW X (.BoolOp .Or [a] pos) t := pw_or1 h
theorem vw_or {t u : VTT} {rest : List Expr} (h : VT X a t) (g : VW X (.BoolOp .Or (b :: rest) pos) u) : VW X (.BoolOp .Or (a :: b :: rest) pos) (vOrT t u) := PW.imp (pw_or h g) fun σ H Q q => by
  obtain ⟨R, F, A, e, Kp, rep, ht, fin⟩ := q
  refine ⟨R, F, A, e, _, rep, ht, fun b e1 F1 A1 H1 k1 f1 p1 rep1 => ?_⟩
  cases b with
  | true => exact fin _ e1 F1 A1 H1 k1 f1 p1 rep1
  | false => exact ⟨R, F1, A1, e1, Kp, rep1, k1, fin.tr f1 p1⟩
theorem VW.vt {ex : Expr} {t : VTT} (h : VW X ex t) : VT X ex t := PW.pt h
def vAndV (ta tb : VTE) : VTE := fun e Kp => ta e fun s e1 => match pk s e1 with
  | some (.bool c) => if c = true then tb e1 Kp else Kp (.val (.bool false)) e1
  | _ => False
def vOrV (ta tb : VTE) : VTE := fun e Kp => ta e fun s e1 => match pk s e1 with
  | some (.bool c) => if c = true then Kp (.val (.bool true)) e1 else tb e1 Kp
  | _ => False
def opNot (s : Sl) (e : En) (Kp : KE) : Prop := match pk s e with
  | some (.bool c) => Kp (.val (.bool (!c))) e
  | _ => False
def vIfE (t : VTT) (ta tb : VTE) : VTE := fun e Kp => t e fun b e1 => if b = true then ta e1 Kp else tb e1 Kp
theorem ve_ifExp {c : Expr} {t : VTT} (hc : VT X c t) (ha : VE X a ta) (hb : VE X b tb) : VE X (.IfExp c a b pos) (vIfE t ta tb) := PE.imp (pe_ifExp hc ha hb) fun σ H Q q => by
  obtain ⟨R, F, A, e, Kp, rep, ht, fin⟩ := q
  refine ⟨R, F, A, e, _, rep, ht, fun b e1 F1 A1 H1 k1 f1 p1 rep1 => ?_⟩
  cases b with
  | true => exact ⟨R, F1, A1, e1, Kp, rep1, k1, fin.tr f1 p1⟩
  | false => exact ⟨R, F1, A1, e1, Kp, rep1, k1, fin.tr f1 p1⟩
def vVar (i : Nat) : VTE := fun e Kp => match e.sl[i]? with
  | some (some s) => Kp s e
  | _ => False
def vC (d : D) : VTE := fun e Kp => Kp (.val d) e
theorem vp (i : Nat) {x : Str} {pos : Pos} (hN : X.N[i]? = some x := by rfl) (hv : Vis X.env.scope x := by first | exact Or.inl rfl | exact Or.inr (Or.inl rfl) | exact Or.inr (Or.inr rfl)) (hd : (x == ("__debug__" : Str)) = false := by decide)
    (hcd : (x == ("__classdict__" : Str)) = false := by decide) : VE X (.Name x pos) (vVar i) := PE.imp (pe_var hN hv hd hcd) fun σ H Q q => by
  obtain ⟨R, F, A, e, Kp, rep, ht, fin⟩ := q
  have ht' : (match e.sl[i]? with | some (some s) => Kp s e | _ => False) := ht
  split at ht'
  · rename_i s hs
    obtain ⟨v, h1, h2⟩ := rep.slot i s hs
    exact ⟨v, h1, fin.done rep ht' h2⟩
  · exact ht'.elim
theorem ve_c {ex : Expr} {v : V} {d : D} (h : PE X ex (tC v)) (hd : ∀ F, At X.K F d v) : VE X ex (vC d) := PE.imp h fun σ H Q q => by
  obtain ⟨R, F, A, e, Kp, rep, ht, fin⟩ := q
  exact fin.val rep ht (hd F)
theorem ve_int {i j pos} : VE X (.Constant (.int i) j pos) (vC (.int i)) := ve_c pe_int fun _ => .int i
theorem ve_bl {b j pos} : VE X (.Constant (.bool b) j pos) (vC (.bool b)) := ve_c pe_bl fun _ => .bl b
theorem ve_str {x j pos} : VE X (.Constant (.str x) j pos) (vC (.str x)) := ve_c pe_str fun _ => .str x
theorem ve_glob {x : Str} {v : V} {d : D} {u : Value} {pos : Pos} (hg : Gl X x) (hm : X.mg x = some u) (r : RelV v u) (hd : ∀ F, At X.K F d v) (hdb : (x == ("__debug__" : Str)) = false := by decide) : VE X (.Name x pos) (vC d) := ve_c (pe_glob hg hm r hdb) hd
def vNil : VTA := fun e Kp => Kp [] e
def vCons (ta : VTE) (tr : VTA) : VTA := fun e Kp => ta e fun s e1 => tr e1 fun ss e2 => Kp (s :: ss) e2
theorem va_nil : VA X [] vNil := PA.imp pa_nil fun σ H Q q => by
  obtain ⟨R, F, A, e, Kp, rep, ht, fin⟩ := q
  exact fin [] e [] F A H ht (Le.refl F) (pfx_refl A) rep .nil
theorem va_cons {es : List Expr} {t : VTA} (ha : VE X a ta) (hr : VA X es t) (hs : starEach (a :: es) X.env = (false, eval a X.env) :: starEach es X.env := by rfl) : VA X (a :: es) (vCons ta t) := PA.imp (pa_cons ha hr hs) fun σ H Q q => by
  obtain ⟨R, F, A, e, Kp, rep, ht, fin⟩ := q
  exact ⟨R, F, A, e, _, rep, ht, fun s1 e1 x F1 A1 H1 k1 f1 p1 rep1 at1 => ⟨R, F1, A1, e1, _, rep1, k1, fun ss e2 xs F2 A2 H2 k2 f2 p2 rep2 at2 => fin _ e2 _ F2 A2 H2 k2 (f1.trans f2) (p1.trans p2) rep2 (.cons (at1.le f2 p2) at2)⟩⟩
def opTup (ss : List Sl) (e : En) (Kp : KE) : Prop := asDs ss e fun ds e1 => ds.length ≤ sizeLine ∧ Kp (.val (.tuple ds)) e1
def opLst (ss : List Sl) (e : En) (Kp : KE) : Prop := asDs ss e fun ds e1 => ds.length ≤ sizeLine ∧ Kp (.val (.list ds)) e1
def opLstO (ss : List Sl) (e : En) (Kp : KE) : Prop := asDs ss e fun ds e1 => ds.length ≤ sizeLine ∧ Kp (.obj e1.st.length) ⟨e1.sl, e1.st ++ [some (.l ds)]⟩
theorem ve_tup {es : List Expr} {t : VTA} {x1} (h : VA X es t) : VE X (.Tuple es x1 pos) (vN opTup t) := PE.imp (pe_tup h) (liftN fun {R F A σ H e xs ss Kp Q} rep ha ho fin => by
  obtain ⟨ds, e1, F1, ⟨hl, k⟩, rep1, l1, a1⟩ := rep.asDs ha ho
  exact ⟨by rw [a1.len]; exact hl, fun p hp => (fin.tr l1 (pfx_refl A)).newT rep1 hp k a1⟩)
theorem ve_lst {es : List Expr} {t : VTA} (h : VA X es t) : VE X (.List es pos) (vN opLst t) := PE.imp (pe_lst h) (liftN fun {R F A σ H e xs ss Kp Q} rep ha ho fin => by
  obtain ⟨ds, e1, F1, ⟨hl, k⟩, rep1, l1, a1⟩ := rep.asDs ha ho
  exact ⟨by rw [a1.len]; exact hl, fun p hp => (fin.tr l1 (pfx_refl A)).newL rep1 hp k a1⟩)
theorem ve_lstO {es : List Expr} {t : VTA} (h : VA X es t) : VE X (.List es pos) (vN opLstO t) := PE.imp (pe_lst h) (liftN fun {R F A σ H e xs ss Kp Q} rep ha ho fin => by
  obtain ⟨ds, e1, F1, ⟨hl, k⟩, rep1, l1, a1⟩ := rep.asDs ha ho
  exact ⟨by rw [a1.len]; exact hl, fun p hp => (fin.tr l1 (pfx_refl A)).newO rep1 hp k a1⟩)
end
end Vl
namespace Vl
open PySem L2
theorem u190 {k : Nat} {A : Around} (r : Room k A) : A.units + 190 < cLine := by
  have := r.un
  omega
/-- data that == may go into -/
def shp (d : D) : Bool := d.canLay0 && decide (d.depth ≤ 190)
theorem shp_can {d : D} (h : shp d = true) : PyData.canLay0 d = true := (Bool.and_eq_true_iff.mp h).1
def rEqW (K : PySem.W.Frag) (neg : Bool) : R2 := fun x y H Q => ∃ d e, Dp K H x d ∧ Dp K H y e ∧ shp d = true ∧ shp e = true ∧ Q (.bl (if neg then !PyData.eqv d e else PyData.eqv d e)) H
section
variable {X : Cx}
theorem op_eqW (hu : X.A.units + 190 < cLine) : OpR X (compareOp .Eq) (rEqW X.K false) := by
  intro pins s σ H x y v u Q I rx ry h
  obtain ⟨d, e, hd, he, sd, se, q⟩ := h
  obtain ⟨as, r1⟩ := Dp.reads I d x v hd rx
  obtain ⟨bs, r2⟩ := Dp.reads I e y u he ry
  obtain ⟨l1, l2⟩ := Bool.and_eq_true_iff.mp sd
  obtain ⟨l3, l4⟩ := Bool.and_eq_true_iff.mp se
  have := of_decide_eq_true l2
  exact SeqAt.compareEq_reads r1 r2 l1 l3 (by omega) ⟨.bl _, H, I, rfl, q⟩
theorem op_neW (hu : X.A.units + 190 < cLine) : OpR X (compareOp .NotEq) (rEqW X.K true) := by
  intro pins s σ H x y v u Q I rx ry h
  obtain ⟨d, e, hd, he, sd, se, q⟩ := h
  obtain ⟨as, r1⟩ := Dp.reads I d x v hd rx
  obtain ⟨bs, r2⟩ := Dp.reads I e y u he ry
  obtain ⟨l1, l2⟩ := Bool.and_eq_true_iff.mp sd
  obtain ⟨l3, l4⟩ := Bool.and_eq_true_iff.mp se
  have := of_decide_eq_true l2
  exact SeqAt.compareNe_reads r1 r2 l1 l3 (by omega) ⟨.bl _, H, I, rfl, q⟩
end
def opAdd (s1 s2 : Sl) (e : En) (Kp : KE) : Prop := match pkm s1 e, pkm s2 e with
  | some (.int i), some (.int j) => Kp (.val (.int (i + j))) e
  | some (.str i), some (.str j) => i.length + j.length ≤ sizeLine ∧ Kp (.val (.str (i ++ j))) e
  | some (.list ds), some (.list es) => ds.length + es.length ≤ sizeLine ∧ Kp (.val (.list (ds ++ es))) e
  | some (.tuple ds), some (.tuple es) => ds.length + es.length ≤ sizeLine ∧ Kp (.val (.tuple (ds ++ es))) e
  | _, _ => False
def rAdd4 (K : PySem.W.Frag) : R2 := fun x y H Q => (rI0 (fun i j => .int (i + j)) x y H Q ∨ ∃ i j, x = .str i ∧ y = .str j ∧ i.length + j.length ≤ sizeLine ∧ Q (.str (i ++ j)) H) ∨ (rCat x y H Q ∨ rCatA K x y H Q)
theorem op_add4 {X : Cx} : OpR X (binaryOp .Add) (rAdd4 X.K) := (op_add.or op_add_str).or (op_cat.or op_catA)
theorem AtL.nil_iff {K : PySem.W.Frag} {F : Hp} {ds : List D} {xs : List V} (h : AtL K F ds xs) : ds = [] ↔ xs = [] := by
  cases h <;> simp
section
variable {K : PySem.W.Frag}
theorem p_add : Prim2 K (rAdd4 K) opAdd := by
  intro R F A σ H e x y s1 s2 Kp Q rep a1 a2 ho fin
  unfold opAdd at ho
  split at ho
  · rename_i i j h1 h2
    exact .inl (.inl ⟨i, j, (rep.pkm a1 h1).int, (rep.pkm a2 h2).int, fin.val rep ho (.int _)⟩)
  · rename_i i j h1 h2
    exact .inl (.inr ⟨i, j, (rep.pkm a1 h1).str, (rep.pkm a2 h2).str, ho.1, fin.val rep ho.2 (.str _)⟩)
  · rename_i ds es h1 h2
    obtain ⟨a, xs, rfl, q1, q2⟩ := rep.pkm a1 h1
    obtain ⟨b, ys, rfl, q3, q4⟩ := rep.pkm a2 h2
    exact .inr (.inl ⟨a, b, xs, ys, rfl, rfl, q1, q3, by rw [q2.len, q4.len]; exact ho.1, fun p hp => fin.newL rep hp ho.2 (q2.app q4)⟩)
  · rename_i ds es h1 h2
    obtain ⟨a, xs, rfl, q1, q2⟩ := (rep.pkm a1 h1).tup
    obtain ⟨b, ys, rfl, q3, q4⟩ := (rep.pkm a2 h2).tup
    refine .inr (.inr ⟨a, b, xs, ys, rfl, rfl, sqT_le rep.sub q1, sqT_le rep.sub q3, by rw [q2.len, q4.len]; exact ho.1, fun z => ?_, fun _ z => ?_, fun _ _ p hp => fin.newT rep hp ho.2 (q2.app q4)⟩)
    · have z' := q2.nil_iff.mpr z
      subst z'
      exact fin.val rep ho.2 (.tup q3 q4)
    · have z' := q4.nil_iff.mpr z
      subst z'
      have k := ho.2
      rw [List.append_nil] at k
      exact fin.val rep k (.tup q1 q2)
  · exact ho.elim
/-- the sum of two lists is a list of the store -/
def opAddO (s1 s2 : Sl) (e : En) (Kp : KE) : Prop := match pkm s1 e, pkm s2 e with
  | some (.list ds), some (.list es) => ds.length + es.length ≤ sizeLine ∧ Kp (.obj e.st.length) ⟨e.sl, e.st ++ [some (.l (ds ++ es))]⟩
  | _, _ => False
theorem p_addO : Prim2 K rCat opAddO := by
  intro R F A σ H e x y s1 s2 Kp Q rep a1 a2 ho fin
  unfold opAddO at ho
  split at ho
  · rename_i ds es h1 h2
    obtain ⟨a, xs, rfl, q1, q2⟩ := rep.pkm a1 h1
    obtain ⟨b, ys, rfl, q3, q4⟩ := rep.pkm a2 h2
    exact ⟨a, b, xs, ys, rfl, rfl, q1, q3, by rw [q2.len, q4.len]; exact ho.1, fun p hp => fin.newO rep hp ho.2 (q2.app q4)⟩
  · exact ho.elim
/-- two whole numbers -/
def opI (C : Int → Int → Prop) (g : Int → Int → D) (s1 s2 : Sl) (e : En) (Kp : KE) : Prop := match pk s1 e, pk s2 e with
  | some (.int i), some (.int j) => C i j ∧ Kp (.val (g i j)) e
  | _, _ => False
def opI0 (g : Int → Int → D) (s1 s2 : Sl) (e : En) (Kp : KE) : Prop := match pk s1 e, pk s2 e with
  | some (.int i), some (.int j) => Kp (.val (g i j)) e
  | _, _ => False
def sV : D → V
  | .none => .non
  | .bool b => .bl b
  | .int i => .int i
  | .str x => .str x
  | _ => .non
theorem p_i {C : Int → Int → Prop} {g : Int → Int → D} (hg : ∀ i j F, At K F (g i j) (sV (g i j))) : Prim2 K (rI C fun i j => sV (g i j)) (opI C g) := by
  intro R F A σ H e x y s1 s2 Kp Q rep a1 a2 ho fin
  unfold opI at ho
  split at ho
  · rename_i i j h1 h2
    exact ⟨i, j, (rep.pk a1 h1).int, (rep.pk a2 h2).int, ho.1, fin.val rep ho.2 (hg i j F)⟩
  · exact ho.elim
theorem p_i0 {g : Int → Int → D} (hg : ∀ i j F, At K F (g i j) (sV (g i j))) : Prim2 K (rI0 fun i j => sV (g i j)) (opI0 g) := by
  intro R F A σ H e x y s1 s2 Kp Q rep a1 a2 ho fin
  unfold opI0 at ho
  split at ho
  · rename_i i j h1 h2
    exact ⟨i, j, (rep.pk a1 h1).int, (rep.pk a2 h2).int, fin.val rep ho (hg i j F)⟩
  · exact ho.elim
end
section
variable {X : Cx} {a b : Expr} {ta tb : VTE} {pos : Pos}
theorem ve_add (ha : VE X a ta) (hb : VE X b tb) : VE X (.BinOp a .Add b pos) (v2 opAdd ta tb) := ve_op p_add op_add4 ha hb
theorem ve_addO (ha : VE X a ta) (hb : VE X b tb) : VE X (.BinOp a .Add b pos) (v2 opAddO ta tb) := ve_op p_addO op_cat ha hb
def gSubI (i j : Int) : D := .int (i - j)
def gMulI (i j : Int) : D := .int (i * j)
def gModI (i j : Int) : D := .int (i.fmod j)
def gDivI (i j : Int) : D := .int (i.fdiv j)
def gPowI (i j : Int) : D := .int (i ^ j.toNat)
abbrev opSub := opI0 gSubI
abbrev opMod := opI (fun _ j => j ≠ 0) gModI
def CDiv6 (_ j : Int) : Prop := 0 < j ∧ j < 2 ^ 120
abbrev opDiv := opI CDiv6 gDivI
abbrev opPow := opI CPow gPowI
theorem ve_sub (ha : VE X a ta) (hb : VE X b tb) : VE X (.BinOp a .Sub b pos) (v2 opSub ta tb) := ve_op (p_i0 (g := gSubI) fun _ _ _ => .int _) op_sub ha hb
theorem ve_mod (ha : VE X a ta) (hb : VE X b tb) : VE X (.BinOp a .Mod b pos) (v2 opMod ta tb) := ve_op (p_i (g := gModI) fun _ _ _ => .int _) op_modN ha hb
theorem CDiv6.log {i j : Int} (h : CDiv6 i j) : j.natAbs.log2 < 9000 := Nat.lt_of_lt_of_le (PySem.Flt.log2_lt_of (k := 120) (by decide) (by
  have h1 := h.1
  have h2 := h.2
  omega)) (by decide)
theorem op_fdiv6 : OpR X (binaryOp .FloorDiv) (rI CDiv6 fun i j => .int (i.fdiv j)) := L2.opI fun i j _ _ _ _ _ hc q => PyProof.Rows.floordiv_int (by have := hc.1; omega) q (.inl (PyProof.noPylong_of_log2 hc.log))
theorem ve_div (ha : VE X a ta) (hb : VE X b tb) : VE X (.BinOp a .FloorDiv b pos) (v2 opDiv ta tb) := ve_op (p_i (g := gDivI) fun _ _ _ => .int _) op_fdiv6 ha hb
theorem ve_pow (ha : VE X a ta) (hb : VE X b tb) : VE X (.BinOp a .Pow b pos) (v2 opPow ta tb) := ve_op (p_i (g := gPowI) fun _ _ _ => .int _) op_pow ha hb
def gLt (i j : Int) : D := .bool (decide (i < j))
def gLe (i j : Int) : D := .bool (decide (i ≤ j))
def gGt (i j : Int) : D := .bool (decide (j < i))
def gGe (i j : Int) : D := .bool (decide (j ≤ i))
abbrev opLe := opI0 gLe
abbrev opGt := opI0 gGt
abbrev opGe := opI0 gGe
def opLt (s1 s2 : Sl) (e : En) (Kp : KE) : Prop := match pk s1 e, pk s2 e with
  | some (.int i), some (.int j) => Kp (.val (gLt i j)) e
  | some (.str i), some (.str j) => Kp (.val (.bool (decide (i.cps.toList < j.cps.toList)))) e
  | _, _ => False
def rLt2 : R2 := fun x y H Q => rI0 (fun i j => .bl (decide (i < j))) x y H Q ∨ ∃ i j, x = .str i ∧ y = .str j ∧ Q (.bl (decide (i.cps.toList < j.cps.toList))) H
theorem p_lt {K : PySem.W.Frag} : Prim2 K rLt2 opLt := by
  intro R F A σ H e x y s1 s2 Kp Q rep a1 a2 ho fin
  unfold opLt at ho
  split at ho
  · rename_i i j h1 h2
    exact .inl ⟨i, j, (rep.pk a1 h1).int, (rep.pk a2 h2).int, fin.val rep ho (.bl _)⟩
  · rename_i i j h1 h2
    exact .inr ⟨i, j, (rep.pk a1 h1).str, (rep.pk a2 h2).str, fin.val rep ho (.bl _)⟩
  · exact ho.elim
/-- == -/
def opEq (neg : Bool) (s1 s2 : Sl) (e : En) (Kp : KE) : Prop := match pk s1 e, pk s2 e with
  | some (.int i), some (.int j) => Kp (.val (.bool (if neg then !decide (i = j) else decide (i = j)))) e
  | some (.str i), some (.str j) => Kp (.val (.bool (if neg then !decide (i = j) else decide (i = j)))) e
  | some d, some c => shp d = true ∧ shp c = true ∧ Kp (.val (.bool (if neg then !PyData.eqv d c else PyData.eqv d c))) e
  | _, _ => False
def rEq2 (K : PySem.W.Frag) (neg : Bool) : R2 := fun x y H Q => (scal x y = true ∧ Q (.bl (if neg then !decide (x = y) else decide (x = y))) H) ∨ rEqW K neg x y H Q
theorem p_eq {K : PySem.W.Frag} {neg : Bool} : Prim2 K (rEq2 K neg) (opEq neg) := by
  intro R F A σ H e x y s1 s2 Kp Q rep a1 a2 ho fin
  unfold opEq at ho
  split at ho
  · rename_i i j h1 h2
    have e1 := (rep.pk a1 h1).int
    have e2 := (rep.pk a2 h2).int
    subst e1 e2
    refine .inl ⟨rfl, ?_⟩
    have z : decide (V.int i = V.int j) = decide (i = j) := by
      by_cases q : i = j <;> simp [q]
    rw [z]
    exact fin.val rep ho (.bl _)
  · rename_i i j h1 h2
    have e1 := (rep.pk a1 h1).str
    have e2 := (rep.pk a2 h2).str
    subst e1 e2
    refine .inl ⟨rfl, ?_⟩
    have z : decide (V.str i = V.str j) = decide (i = j) := by
      by_cases q : i = j <;> simp [q]
    rw [z]
    exact fin.val rep ho (.bl _)
  · rename_i d c _ _ h1 h2
    exact .inr ⟨d, c, (rep.pk a1 h1).dp rep.sub (shp_can ho.1), (rep.pk a2 h2).dp rep.sub (shp_can ho.2.1), ho.1, ho.2.1, fin.val rep ho.2.2 (.bl _)⟩
  · exact ho.elim
theorem op_eq2 (hu : X.A.units + 190 < cLine) : OpR X (compareOp .Eq) (rEq2 X.K false) := op_eq.or (op_eqW hu)
theorem op_ne2 (hu : X.A.units + 190 < cLine) : OpR X (compareOp .NotEq) (rEq2 X.K true) := op_ne.or (op_neW hu)
theorem ve_le (ha : VE X a ta) (hb : VE X b tb) (hm : behindInMarks .LtE b = false := by exact nomark _) : VE X (.Compare a [.LtE] [b] pos) (v2 opLe ta tb) := ve_cmp (p_i0 (g := gLe) fun _ _ _ => .bl _) op_le ha hb hm
def opIx (s1 s2 : Sl) (e : En) (Kp : KE) : Prop := match pk s1 e, pk s2 e with
  | some (.tuple ds), some (.int i) => ∃ d, atI ds i = some d ∧ Kp (.val d) e
  | some (.list ds), some (.int i) => ∃ d, atI ds i = some d ∧ Kp (.val d) e
  | some (.str z), some (.int i) => ∃ c, z.length ≤ sizeLine ∧ atI z.cps.toList i = some c ∧ Kp (.val (.str ⟨#[c]⟩)) e
  | _, _ => False
theorem AtL.atI {K : PySem.W.Frag} {F : Hp} {ds : List D} {xs : List V} (h : AtL K F ds xs) {i : Int} {d : D} (e : atI ds i = some d) : ∃ v, L2.atI xs i = some v ∧ At K F d v := by
  unfold L2.atI at e ⊢
  rw [h.len]
  cases q : ixN ds.length i with
  | none =>
    rw [q] at e
    cases e
  | some j =>
    rw [q] at e
    exact h.get e
theorem p_ix {K : PySem.W.Frag} : Prim2 K (rIx K) opIx := by
  intro R F A σ H e x y s1 s2 Kp Q rep a1 a2 ho fin
  unfold opIx at ho
  split at ho
  · rename_i ds i h1 h2
    obtain ⟨d, hd, k⟩ := ho
    obtain ⟨a, xs, rfl, q1, q2⟩ := (rep.pk a1 h1).tup
    obtain ⟨v, hv, av⟩ := q2.atI hd
    exact .inr (.inl ⟨a, xs, i, v, rfl, (rep.pk a2 h2).int, sqT_le rep.sub q1, hv, fin.val rep k av⟩)
  · rename_i ds i h1 h2
    obtain ⟨d, hd, k⟩ := ho
    obtain ⟨a, xs, rfl, q1, q2⟩ := rep.pk a1 h1
    obtain ⟨v, hv, av⟩ := q2.atI hd
    exact .inl ⟨a, xs, i, v, rfl, (rep.pk a2 h2).int, q1, hv, fin.val rep k av⟩
  · rename_i z i h1 h2
    obtain ⟨c, hz, hc, k⟩ := ho
    exact .inr (.inr ⟨z, i, c, (rep.pk a1 h1).str, (rep.pk a2 h2).int, hz, hc, fin.val rep k (.str _)⟩)
  · exact ho.elim
end
end Vl
namespace Vl
open PySem L2
abbrev VTO := En → (Option Int → En → Prop) → Prop
def vNoPart : VTO := fun e Kp => Kp none e
def vPart (t : VTE) : VTO := fun e Kp => t e fun s e1 => match pk s e1 with
  | some (.int i) => Kp (some i) e1
  | _ => False
theorem PO.imp {X : Cx} {ex : Option Expr} {t t' : TO} (h : PO X ex t) (f : ∀ σ H Q, t' σ H Q → t σ H Q) : PO X ex t' := by
  obtain ⟨run⟩ := h
  constructor
  intros
  apply run <;> first | assumption | (apply f; assumption)
section
variable {X : Cx} {a b : Expr} {ta tb : VTE} {pos : Pos}
def cut (ds : List D) (lo hi : Option Int) : List D := (ds.drop (HT.sIx ds.length 0 lo)).take (HT.sIx ds.length ds.length hi - HT.sIx ds.length 0 lo)
def opSl (s : Sl) (lo hi : Option Int) (e : En) (Kp : KE) : Prop := match pk s e with
  | some (.list ds) => Kp (.val (.list (cut ds lo hi))) e
  | some (.tuple ds) => Kp (.val (.tuple (cut ds lo hi))) e
  | some (.str z) => z.length ≤ sizeLine ∧ Kp (.val (.str (cutS z lo hi))) e
  | _ => False
def opSlO (s : Sl) (lo hi : Option Int) (e : En) (Kp : KE) : Prop := match pk s e with
  | some (.list ds) => Kp (.obj e.st.length) ⟨e.sl, e.st ++ [some (.l (cut ds lo hi))]⟩
  | _ => False
def vSl (op : Sl → Option Int → Option Int → En → KE → Prop) (ta : VTE) (tl th : VTO) : VTE := fun e Kp => ta e fun s e1 => tl e1 fun l e2 => th e2 fun u e3 => op s l u e3 Kp
theorem ve_blt {id : String} {r : List V → Hp → VK → Prop} {op : List Sl → En → KE → Prop} {x : Str} {p : Pos} {es : List Expr} {t : VTA} (pr : PrimN X.K r op) (hc : CallR X (.builtin id) r) (hg : Gl X x) (hm : X.mg x = none) (hv : bootBuiltins x = some (.builtin id)) (ha : VA X (a :: es) t)
    (hn : x ≠ "__name__" := by decide) (hdb : (x == ("__debug__" : Str)) = false := by decide) (he : starEach (a :: es) X.env = (false, eval a X.env) :: starEach es X.env := by rfl) (hpl : (backTo pos (starEach es X.env)).any (·.1) = false := by rfl) :
    VE X (.Call (.Name x p) (a :: es) [] pos) (vN op t) := PE.imp (pe_callB hc hg hm hv ha hn hdb he hpl) (liftN pr)
theorem ve_typ {T : String} {r : List V → Hp → VK → Prop} {op : List Sl → En → KE → Prop} {x : Str} {p : Pos} {es : List Expr} {t : VTA} (pr : PrimN X.K r op) (hc : CallR X (.type T) r) (hg : Gl X x) (hm : X.mg x = none) (hv : bootBuiltins x = some (.type T)) (ha : VA X (a :: es) t)
    (hn : x ≠ "__name__" := by decide) (hdb : (x == ("__debug__" : Str)) = false := by decide) (he : starEach (a :: es) X.env = (false, eval a X.env) :: starEach es X.env := by rfl) (hpl : (backTo pos (starEach es X.env)).any (·.1) = false := by rfl) :
    VE X (.Call (.Name x p) (a :: es) [] pos) (vN op t) := PE.imp (pe_callTy hc hg hm hv ha hn hdb he hpl) (liftN pr)
def opLen (ss : List Sl) (e : En) (Kp : KE) : Prop := match ss with
  | [s] => (match pk s e with
    | some (.list ds) => Kp (.val (.int (ds.length : Nat))) e
    | some (.tuple ds) => Kp (.val (.int (ds.length : Nat))) e
    | some (.str z) => z.length ≤ sizeLine ∧ Kp (.val (.int (z.length : Nat))) e
    | _ => False)
  | _ => False
theorem SlAts.one {K : PySem.W.Frag} {F : Hp} {A : List Addr} {xs : List V} {s : Sl} (h : SlAts K F A xs [s]) : ∃ x, xs = [x] ∧ SlAt K F A x s := by
  cases h with
  | cons h1 h2 =>
    cases h2
    exact ⟨_, rfl, h1⟩
theorem SlAts.two {K : PySem.W.Frag} {F : Hp} {A : List Addr} {xs : List V} {s t : Sl} (h : SlAts K F A xs [s, t]) : ∃ x y, xs = [x, y] ∧ SlAt K F A x s ∧ SlAt K F A y t := by
  cases h with
  | cons h1 h2 =>
    obtain ⟨y, rfl, h3⟩ := h2.one
    exact ⟨_, _, rfl, h1, h3⟩
theorem p_len {K : PySem.W.Frag} : PrimN K (fun xs H Q => ∃ x n, xs = [x] ∧ LenV K x H n ∧ Q (.int n) H) opLen := by
  intro R F A σ H e xs ss Kp Q rep a1 ho fin
  unfold opLen at ho
  split at ho
  · rename_i s
    obtain ⟨x, rfl, a2⟩ := a1.one
    split at ho
    · rename_i ds h1
      obtain ⟨a, ys, rfl, q1, q2⟩ := rep.pk a2 h1
      exact ⟨_, ds.length, rfl, .inl ⟨ys, q1, q2.len.symm⟩, fin.val rep ho (.int _)⟩
    · rename_i ds h1
      obtain ⟨a, ys, rfl, q1, q2⟩ := (rep.pk a2 h1).tup
      exact ⟨_, ds.length, rfl, .inr ⟨ys, sqT_le rep.sub q1, q2.len.symm⟩, fin.val rep ho (.int _)⟩
    · rename_i z h1
      have e1 := (rep.pk a2 h1).str
      subst e1
      exact ⟨_, z.length, rfl, ⟨ho.1, rfl⟩, fin.val rep ho.2 (.int _)⟩
    · exact ho.elim
  · exact ho.elim
theorem ve_len {p : Pos} {t : VTA} (hg : Gl X "len") (hm : X.mg "len" = none) (ha : VA X [a] t) (he : starEach [a] X.env = (false, eval a X.env) :: starEach [] X.env := by rfl) : VE X (.Call (.Name "len" p) [a] [] pos) (vN opLen t) :=
  ve_blt p_len call_len hg hm PySem.boot_len ha (by decide) (by decide) he
def opII (g : Int → Int → Int) (ss : List Sl) (e : En) (Kp : KE) : Prop := match ss with
  | [s, t] => (match pk s e, pk t e with
    | some (.int i), some (.int j) => Kp (.val (.int (g i j))) e
    | _, _ => False)
  | _ => False
theorem p_ii {K : PySem.W.Frag} {g : Int → Int → Int} : PrimN K (fun xs H Q => ∃ i j, xs = [.int i, .int j] ∧ Q (.int (g i j)) H) (opII g) := by
  intro R F A σ H e xs ss Kp Q rep a1 ho fin
  unfold opII at ho
  split at ho
  · rename_i s t
    obtain ⟨x, y, rfl, a2, a3⟩ := a1.two
    split at ho
    · rename_i i j h1 h2
      exact ⟨i, j, by rw [(rep.pk a2 h1).int, (rep.pk a3 h2).int], fin.val rep ho (.int _)⟩
    · exact ho.elim
  · exact ho.elim
def gMax (i j : Int) : Int := if j > i then j else i
def gMin (i j : Int) : Int := if j < i then j else i
theorem ve_max {p : Pos} {t : VTA} (hc : X.calm = true) (hg : Gl X "max") (hm : X.mg "max" = none) (ha : VA X [a, b] t) (he : starEach [a, b] X.env = (false, eval a X.env) :: starEach [b] X.env := by rfl) (hpl : (backTo pos (starEach [b] X.env)).any (·.1) = false := by rfl) : VE X (.Call (.Name "max" p) [a, b] [] pos) (vN (opII gMax) t) := ve_blt (p_ii (g := gMax)) (call_max2 hc) hg hm (by decide +kernel) ha (by decide) (by decide) he hpl
theorem ve_min {p : Pos} {t : VTA} (hc : X.calm = true) (hg : Gl X "min") (hm : X.mg "min" = none) (ha : VA X [a, b] t) (he : starEach [a, b] X.env = (false, eval a X.env) :: starEach [b] X.env := by rfl) (hpl : (backTo pos (starEach [b] X.env)).any (·.1) = false := by rfl) : VE X (.Call (.Name "min" p) [a, b] [] pos) (vN (opII gMin) t) := ve_blt (p_ii (g := gMin)) (call_min2 hc) hg hm (by decide +kernel) ha (by decide) (by decide) he hpl
/-- int(x) of a number or a truth -/
def opInt (ss : List Sl) (e : En) (Kp : KE) : Prop := match ss with
  | [s] => (match pk s e with
    | some (.int i) => Kp (.val (.int i)) e
    | some (.bool b) => Kp (.val (.int (if b then 1 else 0))) e
    | _ => False)
  | _ => False
/-- list(xs), tuple(xs) -/
def opList (ss : List Sl) (e : En) (Kp : KE) : Prop := match ss with
  | [s] => (match pk s e with
    | some (.list ds) => Kp (.val (.list ds)) e
    | some (.tuple ds) => Kp (.val (.list ds)) e
    | _ => False)
  | _ => False
def opListO (ss : List Sl) (e : En) (Kp : KE) : Prop := match ss with
  | [s] => (match pk s e with
    | some (.list ds) => Kp (.obj e.st.length) ⟨e.sl, e.st ++ [some (.l ds)]⟩
    | some (.tuple ds) => Kp (.obj e.st.length) ⟨e.sl, e.st ++ [some (.l ds)]⟩
    | _ => False)
  | _ => False
def opTuple (ss : List Sl) (e : En) (Kp : KE) : Prop := match ss with
  | [s] => (match pk s e with
    | some (.list ds) => Kp (.val (.tuple ds)) e
    | some (.tuple ds) => Kp (.val (.tuple ds)) e
    | _ => False)
  | _ => False
theorem ve_list {p : Pos} {t : VTA} (hg : Gl X "list") (hm : X.mg "list" = none) (ha : VA X [a] t) (he : starEach [a] X.env = (false, eval a X.env) :: starEach [] X.env := by rfl) : VE X (.Call (.Name "list" p) [a] [] pos) (vN opList t) := ve_typ (fun {R F A σ H e xs ss Kp Q} rep a1 ho fin => by
  unfold opList at ho
  split at ho
  · rename_i s
    obtain ⟨x, rfl, a2⟩ := a1.one
    split at ho
    · rename_i ds h1
      obtain ⟨a, ys, rfl, q1, q2⟩ := rep.pk a2 h1
      exact ⟨a, ys, rfl, .inl q1, fun l hl => fin.newL rep hl ho q2⟩
    · rename_i ds h1
      obtain ⟨a, ys, rfl, q1, q2⟩ := (rep.pk a2 h1).tup
      exact ⟨a, ys, rfl, .inr (sqT_le rep.sub q1), fun l hl => fin.newL rep hl ho q2⟩
    · exact ho.elim
  · exact ho.elim) call_list_of hg hm (by decide +kernel) ha (by decide) (by decide) he
theorem ve_listO {p : Pos} {t : VTA} (hg : Gl X "list") (hm : X.mg "list" = none) (ha : VA X [a] t) (he : starEach [a] X.env = (false, eval a X.env) :: starEach [] X.env := by rfl) : VE X (.Call (.Name "list" p) [a] [] pos) (vN opListO t) := ve_typ (fun {R F A σ H e xs ss Kp Q} rep a1 ho fin => by
  unfold opListO at ho
  split at ho
  · rename_i s
    obtain ⟨x, rfl, a2⟩ := a1.one
    split at ho
    · rename_i ds h1
      obtain ⟨a, ys, rfl, q1, q2⟩ := rep.pk a2 h1
      exact ⟨a, ys, rfl, .inl q1, fun l hl => fin.newO rep hl ho q2⟩
    · rename_i ds h1
      obtain ⟨a, ys, rfl, q1, q2⟩ := (rep.pk a2 h1).tup
      exact ⟨a, ys, rfl, .inr (sqT_le rep.sub q1), fun l hl => fin.newO rep hl ho q2⟩
    · exact ho.elim
  · exact ho.elim) call_list_of hg hm (by decide +kernel) ha (by decide) (by decide) he
theorem ve_tuple {p : Pos} {t : VTA} (hg : Gl X "tuple") (hm : X.mg "tuple" = none) (ha : VA X [a] t) (he : starEach [a] X.env = (false, eval a X.env) :: starEach [] X.env := by rfl) : VE X (.Call (.Name "tuple" p) [a] [] pos) (vN opTuple t) := ve_typ (fun {R F A σ H e xs ss Kp Q} rep a1 ho fin => by
  unfold opTuple at ho
  split at ho
  · rename_i s
    obtain ⟨x, rfl, a2⟩ := a1.one
    split at ho
    · rename_i ds h1
      obtain ⟨a, ys, rfl, q1, q2⟩ := rep.pk a2 h1
      exact ⟨a, ys, rfl, .inl ⟨q1, fun l hl => fin.newT rep hl ho q2⟩⟩
    · rename_i ds h1
      obtain ⟨a, ys, rfl, q1, q2⟩ := (rep.pk a2 h1).tup
      exact ⟨a, ys, rfl, .inr ⟨sqT_le rep.sub q1, fin.val rep ho (.tup q1 q2)⟩⟩
    · exact ho.elim
  · exact ho.elim) call_tuple_of hg hm (by decide +kernel) ha (by decide) (by decide) he
def PrimM (K : PySem.W.Frag) (T : String) (r : V → List V → Hp → VK → Prop) (op : Sl → List Sl → En → KE → Prop) : Prop := ∀ {R F : Hp} {A : List Addr} {σ : L2.St} {H : Hp} {e : En} {x : V} {s : Sl} {xs : List V} {ss : List Sl} {Kp : KE} {Q : VK}, Rep K R F A σ H e → SlAt K F A x s → SlAts K F A xs ss → op s ss e Kp → Fin K R F A σ Kp Q → r x xs H Q
/-- the receiver is of the type, when its name is read -/
def isT (T : String) (s : Sl) (e : En) : Prop := match pk s e with
  | some (.str _) => T = "str"
  | some (.list _) => T = "list"
  | _ => False
theorem isT_ty {K : PySem.W.Frag} {R F : Hp} {A : List Addr} {σ : L2.St} {H : Hp} {e : En} {T : String} {x : V} {s : Sl} (rep : Rep K R F A σ H e) (a : SlAt K F A x s) (h : isT T s e) : tyV K T x H := by
  unfold isT at h
  split at h
  · rename_i z hz
    rw [(rep.pk a hz).str]
    exact h
  · rename_i ds hz
    obtain ⟨p, xs, rfl, q1, q2⟩ := rep.pk a hz
    exact .inl ⟨h, xs, q1⟩
  · exact h.elim
def vM (T : String) (op : Sl → List Sl → En → KE → Prop) (ta : VTE) (t : VTA) : VTE := fun e Kp => ta e fun s e1 => isT T s e1 ∧ t e1 fun ss e2 => op s ss e2 Kp
def vM0 (T : String) (op : Sl → List Sl → En → KE → Prop) (ta : VTE) : VTE := fun e Kp => ta e fun s e1 => isT T s e1 ∧ op s [] e1 Kp
variable {o : Expr} {to : VTE}
theorem ve_m {T id : String} {name : Str} {apos cpos : Pos} {r : V → List V → Hp → VK → Prop} {op : Sl → List Sl → En → KE → Prop} {es : List Expr} {t : VTA} (pr : PrimM X.K T r op) (pa : PlainAttrs T) (slot : Slot T name id) (hty : typeOf (.builtin id) = pure (.type "method_descriptor")) (hm : MtR X id r) (ho : VE X o to) (ha : VA X (a :: es) t)
    (hbase : attributeBase o name X.env (eval o X.env) = eval o X.env := by rfl)
    (hfew : ((backTo cpos (starEach (a :: es) X.env)).all (fun x => !x.1) && (backToKw cpos (keywordEach [] X.env)).all (fun x => x.1.isSome)
      && decide ((a :: es).length + ([] : List Keyword).length + (if ([] : List Keyword).isEmpty then 0 else 1) < 30)) = true := by rfl)
    (hline : (apos.endLine == cpos.line) = true := by rfl) (hs : starEach (a :: es) X.env = (false, eval a X.env) :: starEach es X.env := by rfl) (hplain : (backTo cpos (starEach es X.env)).any (·.1) = false := by rfl) :
    VE X (.Call (.Attribute o name apos) (a :: es) [] cpos) (vM T op to t) := PE.imp (pe_bm pa slot hty hm ho ha hbase hfew hline hs hplain) fun σ H Q h => by
  obtain ⟨R, F, A, e, Kp, rep, ht, fin⟩ := h
  exact ⟨R, F, A, e, _, rep, ht, fun s1 e1 x F1 A1 H1 k1 f1 p1 rep1 at1 => ⟨isT_ty rep1 at1 k1.1, R, F1, A1, e1, _, rep1, k1.2, fun ss e2 xs F2 A2 H2 k2 f2 p2 rep2 at2 => pr rep2 (at1.le f2 p2) at2 k2 (fin.tr (f1.trans f2) (p1.trans p2))⟩⟩
/-- xs.append(x) -/
def opAppend (s : Sl) (ss : List Sl) (e : En) (Kp : KE) : Prop := match ss with
  | [t] => asD t e fun d e1 => match s with
    | .obj j => (match e1.st[j]? with
      | some (some (.l ds)) => ds.length < sizeLine ∧ Kp (.val .none) ⟨e1.sl, e1.st.set j (some (.l (ds ++ [d])))⟩
      | _ => False)
    | _ => False
  | _ => False
theorem Fin.chg {K : PySem.W.Frag} {R F : Hp} {A : List Addr} {σ : L2.St} {H : Hp} {e : En} {Kp : KE} {Q : VK} (f : Fin K R F A σ Kp Q) (r : Rep K R F A σ H e) {j : Nat} {a : Addr} {ds : List D} (hj : A[j]? = some a) (hl : e.st[j]? = some (some (.l ds))) {xs' : List V} {ds' : List D} (hx : AtL K F ds' xs') {v : V} {d : D} (hv : At K F d v)
    (k : Kp (.val d) ⟨e.sl, e.st.set j (some (.l ds'))⟩) : Q v (upd H a (.lst xs')) := f (.val d) _ v F A _ k (Le.refl F) (pfx_refl A) (r.write hj hl hx) hv
theorem p_append {K : PySem.W.Frag} : PrimM K "list" rAppend opAppend := by
  intro R F A σ H e x s xs ss Kp Q rep a0 a1 ho fin
  unfold opAppend at ho
  split at ho
  · rename_i t
    obtain ⟨y, rfl, a2⟩ := a1.one
    obtain ⟨d, e1, F1, ho, rep1, l1, at1⟩ := rep.asD a2 ho
    cases s with
    | val _ => exact False.elim ho
    | kn _ => exact False.elim ho
    | exc _ => exact False.elim ho
    | obj j =>
      replace ho : (match e1.st[j]? with | some (some (.l ds)) => ds.length < sizeLine ∧ Kp (.val .none) ⟨e1.sl, e1.st.set j (some (.l (ds ++ [d])))⟩ | _ => False) := ho
      split at ho
      · rename_i ds hd
        obtain ⟨a, ea, rfl⟩ := a0
        obtain ⟨b, ys, q1, q2, q3, q4⟩ := rep1.lst hd
        rw [ea] at q1
        cases q1
        exact ⟨a, ys, y, rfl, rfl, q3, by rw [q4.len]; exact ho.1, (fin.tr l1 (pfx_refl A)).chg rep1 ea hd (q4.app (AtL.one at1)) .non ho.2⟩
      · exact ho.elim
  · exact ho.elim
/-- xs.extend(ys) -/
def opExtend (s : Sl) (ss : List Sl) (e : En) (Kp : KE) : Prop := match s, ss with
  | .obj j, [t] => (match e.st[j]?, pkm t e with
    | some (some (.l ds)), some (.list es) => ds.length + es.length ≤ sizeLine ∧ Kp (.val .none) ⟨e.sl, e.st.set j (some (.l (ds ++ es)))⟩
    | _, _ => False)
  | _, _ => False
theorem p_extend {K : PySem.W.Frag} : PrimM K "list" rExtend opExtend := by
  intro R F A σ H e x s xs ss Kp Q rep a0 a1 ho fin
  unfold opExtend at ho
  split at ho
  · rename_i j t
    obtain ⟨y, rfl, a2⟩ := a1.one
    split at ho
    · rename_i ds es hd he
      obtain ⟨a, ea, rfl⟩ := a0
      obtain ⟨b, ys, q1, q2, q3, q4⟩ := rep.lst hd
      rw [ea] at q1
      cases q1
      obtain ⟨c, zs, rfl, r1, r2⟩ := rep.pkm a2 he
      exact ⟨a, c, ys, zs, rfl, rfl, q3, r1, by rw [q4.len, r2.len]; exact ho.1, fin.chg rep ea hd (q4.app r2) .non ho.2⟩
    · exact ho.elim
  · exact ho.elim
/-- xs.pop() -/
def opPop (s : Sl) (ss : List Sl) (e : En) (Kp : KE) : Prop := match s with
  | .obj j => (match e.st[j]? with
    | some (some (.l ds)) => ∃ d, ds.getLast? = some d ∧ Kp (.val d) ⟨e.sl, e.st.set j (some (.l ds.dropLast))⟩
    | _ => False)
  | _ => False
theorem p_pop {K : PySem.W.Frag} : PrimM K "list" (fun x vs H Q => vs = [] → rPop x vs H Q) opPop := by
  intro R F A σ H e x s xs ss Kp Q rep a0 a1 ho fin hv
  subst hv
  unfold opPop at ho
  split at ho
  · rename_i j
    split at ho
    · rename_i ds hd
      obtain ⟨d, hl, k⟩ := ho
      obtain ⟨a, ea, rfl⟩ := a0
      obtain ⟨b, ys, q1, q2, q3, q4⟩ := rep.lst hd
      rw [ea] at q1
      cases q1
      rw [List.getLast?_eq_getElem?] at hl
      obtain ⟨v, hv, av⟩ := q4.get hl
      refine ⟨a, ys, v, rfl, rfl, q3, by rw [q4.len]; exact hv, fin.chg rep ea hd q4.dropLast av k⟩
    · exact ho.elim
  · exact ho.elim
theorem ve_append {apos cpos : Pos} {t : VTA} (ho : VE X o to) (ha : VA X [a] t) (hbase : attributeBase o "append" X.env (eval o X.env) = eval o X.env := by rfl) (hline : (apos.endLine == cpos.line) = true := by rfl) (hfew : ((backTo cpos (starEach [a] X.env)).all (fun x => !x.1) && (backToKw cpos (keywordEach [] X.env)).all (fun x => x.1.isSome)
      && decide ([a].length + ([] : List Keyword).length + (if ([] : List Keyword).isEmpty then 0 else 1) < 30)) = true := by rfl) (hs : starEach [a] X.env = (false, eval a X.env) :: starEach [] X.env := by rfl) :
    VE X (.Call (.Attribute o "append" apos) [a] [] cpos) (vM "list" opAppend to t) := ve_m p_append PySem.F.plainAttrs_list PySem.F.slot_list_append PySem.F.type_list_append mt_append ho ha hbase hfew hline hs
theorem ve_extend {apos cpos : Pos} {t : VTA} (ho : VE X o to) (ha : VA X [a] t) (hbase : attributeBase o "extend" X.env (eval o X.env) = eval o X.env := by rfl) (hline : (apos.endLine == cpos.line) = true := by rfl) (hfew : ((backTo cpos (starEach [a] X.env)).all (fun x => !x.1) && (backToKw cpos (keywordEach [] X.env)).all (fun x => x.1.isSome)
      && decide ([a].length + ([] : List Keyword).length + (if ([] : List Keyword).isEmpty then 0 else 1) < 30)) = true := by rfl) (hs : starEach [a] X.env = (false, eval a X.env) :: starEach [] X.env := by rfl) :
    VE X (.Call (.Attribute o "extend" apos) [a] [] cpos) (vM "list" opExtend to t) := ve_m p_extend PySem.F.plainAttrs_list PySem.F.slot_list_extend PySem.F.type_list_extend mt_extend ho ha hbase hfew hline hs
end
end Vl
namespace Vl
open PySem L2
/-- an exception: its class's name, its fields -/
structure Xv where
  C : Str
  fs : List (Str × D) := []
structure VEnds where
  nx : En → Prop
  rt : Sl → En → Prop
  bk : En → Prop := fun _ => False
  ct : En → Prop := fun _ => False
  ex : Xv → En → Prop := fun _ _ => False
def XAt (K : PySem.W.Frag) (mg : Str → Option Value) (F H : Hp) (x : Xv) (cls : Value) (d : Option Addr) : Prop :=
  mg x.C = some cls ∧ ((x.fs = [] ∧ d = none) ∨ x.fs ≠ [] ∧ ∃ dx vs, d = some dx ∧ H dx = some (.xd ((x.fs.map (·.1)).zip vs)) ∧ AtL K F (x.fs.map (·.2)) vs)
/-- what is wanted of an exception that leaves here -/
def FinX (X : Cx) (R F : Hp) (A : List Addr) (P : Xv → En → Prop) : Prop := ∃ W : WX, Takes X W ∧ ∀ x e' cls d σ' F' A' H', P x e' → Le F F' → A <+: A' → Rep X.K R F' A' σ' H' e' → XAt X.K X.mg F' H' x cls d → W cls d σ' H'
theorem FinX.tr {X : Cx} {R F F1 : Hp} {A A1 : List Addr} {P : Xv → En → Prop} (f : FinX X R F A P) (a : Le F F1) (b : A <+: A1) : FinX X R F1 A1 P := by
  obtain ⟨W, t, h⟩ := f
  exact ⟨W, t, fun x e' cls d σ' F' A' H' p h1 h2 => h x e' cls d σ' F' A' H' p (a.trans h1) (b.trans h2)⟩
theorem FinX.no {X : Cx} {R F : Hp} {A : List Addr} : FinX X R F A fun _ _ => False :=
  ⟨fun _ _ _ _ => False, fun u s' ⟨a, B, sI, pins, σ, H, cls, d, e, I, nb, up, sky, na, os, ag, w⟩ => w.elim, fun _ _ _ _ _ _ _ _ p => p.elim⟩
abbrev VTS := VEnds → En → Prop
structure FinS (X : Cx) (R F : Hp) (A : List Addr) (DV : VEnds) (D : Ends) : Prop where
  nx : ∀ e' σ' F' A' H', DV.nx e' → Le F F' → A <+: A' → Rep X.K R F' A' σ' H' e' → D.nx σ' H'
  bk : ∀ e' σ' F' A' H', DV.bk e' → Le F F' → A <+: A' → Rep X.K R F' A' σ' H' e' → D.bk σ' H'
  ct : ∀ e' σ' F' A' H', DV.ct e' → Le F F' → A <+: A' → Rep X.K R F' A' σ' H' e' → D.ct σ' H'
  rt : ∀ s e' v σ' F' A' H', DV.rt s e' → Le F F' → A <+: A' → Rep X.K R F' A' σ' H' e' → SlAt X.K F' A' v s → D.rt v H'
  ex : FinX X R F A DV.ex
theorem FinS.tr {X : Cx} {R F F1 : Hp} {A A1 : List Addr} {DV : VEnds} {D : Ends} (f : FinS X R F A DV D) (a : Le F F1) (b : A <+: A1) : FinS X R F1 A1 DV D :=
  ⟨fun e' σ' F' A' H' k h1 h2 => f.nx e' σ' F' A' H' k (a.trans h1) (b.trans h2), fun e' σ' F' A' H' k h1 h2 => f.bk e' σ' F' A' H' k (a.trans h1) (b.trans h2), fun e' σ' F' A' H' k h1 h2 => f.ct e' σ' F' A' H' k (a.trans h1) (b.trans h2),
    fun s e' v σ' F' A' H' k h1 h2 => f.rt s e' v σ' F' A' H' k (a.trans h1) (b.trans h2), f.ex.tr a b⟩
def liftS (X : Cx) (t : VTS) : TS := fun D σ H => ∃ R F A e DV, Rep X.K R F A σ H e ∧ t DV e ∧ FinS X R F A DV D
def VS (X : Cx) (st : Stmt) (t : VTS) : Prop := PS X st (liftS X t)
def VSs (X : Cx) (st : List Stmt) (t : VTS) : Prop := PSs X st (liftS X t)
def vNext : VTS := fun D e => D.nx e
def vSeq (t u : VTS) : VTS := fun D e => t { D with nx := u D } e
/-- the names outside ws are as they were -/
def Off (ws : List Nat) (σ σ' : L2.St) : Prop := σ'.length = σ.length ∧ ∀ i : Nat, i ∉ ws → σ'[i]? = σ[i]?
theorem Off.refl (ws : List Nat) (σ : L2.St) : Off ws σ σ := ⟨rfl, fun _ _ => rfl⟩
theorem Off.app {ws us : List Nat} {σ σ1 σ2 : L2.St} (a : Off ws σ σ1) (b : Off us σ1 σ2) : Off (ws ++ us) σ σ2 :=
  ⟨b.1.trans a.1, fun i h => (b.2 i fun z => h (List.mem_append_right _ z)).trans (a.2 i fun z => h (List.mem_append_left _ z))⟩
abbrev VTG := Sl → En → (En → Prop) → Prop
abbrev VTGs := List D → En → (En → Prop) → Prop
def FinG (K : PySem.W.Frag) (R F : Hp) (A : List Addr) (ws : List Nat) (σ : L2.St) (Kp : En → Prop) (Q : L2.St → Hp → Prop) : Prop := ∀ e' σ' F' A' H', Kp e' → Le F F' → A <+: A' → Off ws σ σ' → Rep K R F' A' σ' H' e' → Q σ' H'
def liftG (K : PySem.W.Frag) (ws : List Nat) (g : VTG) : TG := fun v σ H Q => ∃ R F A e s Kp, Rep K R F A σ H e ∧ SlAt K F A v s ∧ g s e Kp ∧ FinG K R F A ws σ Kp Q
def liftGs (K : PySem.W.Frag) (ws : List Nat) (g : VTGs) : TGs := fun vs σ H Q => ∃ R F A e ds Kp, Rep K R F A σ H e ∧ AtL K F ds vs ∧ g ds e Kp ∧ FinG K R F A ws σ Kp Q
def VG (X : Cx) (ex : Expr) (ws : List Nat) (g : VTG) : Prop := PG X ex (liftG X.K ws g)
def VGs (X : Cx) (ex : List Expr) (ws : List Nat) (g : VTGs) : Prop := PGs X ex (liftGs X.K ws g)
theorem PG.imp {X : Cx} {ex : Expr} {t t' : TG} (h : PG X ex t) (f : ∀ v σ H Q, t' v σ H Q → t v σ H Q) : PG X ex t' := by
  obtain ⟨run⟩ := h
  constructor
  intros
  apply run <;> first | assumption | (apply f; assumption)
theorem PGs.imp {X : Cx} {ex : List Expr} {t t' : TGs} (h : PGs X ex t) (f : ∀ v σ H Q, t' v σ H Q → t v σ H Q) : PGs X ex t' := by
  obtain ⟨run⟩ := h
  constructor
  intros
  apply run <;> first | assumption | (apply f; assumption)
theorem PI.imp {X : Cx} {tg ex : Expr} {t t' : TI} (h : PI X tg ex t) (f : ∀ σ H Q, t' σ H Q → t σ H Q) : PI X tg ex t' := by
  obtain ⟨run⟩ := h
  constructor
  intros
  apply run <;> first | assumption | (apply f; assumption)
def vgName (i : Nat) : VTG := fun s e Kp => Kp ⟨e.sl.set i (some s), e.st⟩
def vgNil : VTGs := fun ds e Kp => match ds with
  | [] => Kp e
  | _ => False
def vgCons (g : VTG) (u : VTGs) : VTGs := fun ds e Kp => match ds with
  | d :: r => g (.val d) e fun e1 => u r e1 Kp
  | [] => False
def vgTup (n : Nat) (u : VTGs) : VTG := fun s e Kp => match pk s e with
  | some (.tuple ds) => ds.length = n ∧ u ds e Kp
  | _ => False
def vgSub (to ti : VTE) : VTG := fun s e Kp => to e fun so e1 => ti e1 fun si e2 => asD s e2 fun d e3 => match so with
  | .obj j => (match pk si e3 with
    | some (.int k) => (match e3.st[j]? with
      | some (some (.l ds)) => ∃ n, ixN ds.length k = some n ∧ Kp ⟨e3.sl, e3.st.set j (some (.l (ds.set n d)))⟩
      | _ => False)
    | _ => False)
  | _ => False
section
variable {X : Cx} {pos : Pos}
theorem off_set (i : Nat) (v : Option V) (σ : L2.St) : Off [i] σ (σ.set i v) := ⟨List.length_set, fun k h => List.getElem?_set_ne (fun z => h (by simp [z]))⟩
theorem vg_name {i : Nat} {x : Str} (hN : X.N.Nodup) (hi : X.N[i]? = some x) (hx : Loc X.env.scope x) (hf : X.fn x = true ∨ X.env.scope.names.lookup x = some .local := by first | exact .inl rfl | exact .inr rfl | assumption) : VG X (.Name x pos) [i] (vgName i) :=
  PG.imp (pg_name hN hi hx hf) fun v σ H Q h => by
    obtain ⟨R, F, A, e, s, Kp, rep, a, k, fin⟩ := h
    exact fin _ _ F A H k (Le.refl F) (pfx_refl A) (off_set i _ σ) (rep.put a)
theorem vgs_nil : VGs X [] [] vgNil := PGs.imp pgs_nil fun vs σ H Q h => by
  obtain ⟨R, F, A, e, ds, Kp, rep, a, k, fin⟩ := h
  unfold vgNil at k
  split at k
  · cases a
    exact ⟨rfl, fin _ _ F A H k (Le.refl F) (pfx_refl A) (Off.refl _ _) rep⟩
  · exact k.elim
theorem vgs_cons {ex : Expr} {es : List Expr} {ws us : List Nat} {g : VTG} {u : VTGs} (h1 : VG X ex ws g) (h2 : VGs X es us u) (hs : (assignEach (ex :: es) X.env).map (·.2) = assign ex X.env :: (assignEach es X.env).map (·.2) := by rfl) : VGs X (ex :: es) (ws ++ us) (vgCons g u) := PGs.imp (pgs_cons h1 h2 hs) fun vs σ H Q h => by
  obtain ⟨R, F, A, e, ds, Kp, rep, a, k, fin⟩ := h
  unfold vgCons at k
  split at k
  · rename_i d r
    cases a with
    | cons a1 a2 => exact ⟨_, _, rfl, R, F, A, e, .val d, _, rep, a1, k, fun e1 σ1 F1 A1 H1 k1 l1 p1 o1 rep1 => ⟨R, F1, A1, e1, r, Kp, rep1, AtL.le l1 _ _ a2, k1, fun e2 σ2 F2 A2 H2 k2 l2 p2 o2 rep2 => fin _ _ _ _ _ k2 (l1.trans l2) (p1.trans p2) (o1.app o2) rep2⟩⟩
  · exact k.elim
theorem vg_tup {es : List Expr} {k : Nat} {t : VTGs} {n : Nat} {ws : List Nat} (hc : X.calm = true) (h : VGs X es ws t) (hn : (assignEach es X.env).length = n := by rfl) (hst : (assignEach es X.env).findIdx? (·.1) = none := by rfl) : VG X (.Tuple es k pos) ws (vgTup n t) := PG.imp (pg_tup hc h hn hst) fun v σ H Q h => by
  obtain ⟨R, F, A, e, s, Kp, rep, a, k, fin⟩ := h
  unfold vgTup at k
  split at k
  · rename_i ds hd
    obtain ⟨p, xs, rfl, q1, q2⟩ := (rep.pk a hd).tup
    exact ⟨p, xs, rfl, sqT_le rep.sub q1, by rw [q2.len]; exact k.1, R, F, A, e, ds, Kp, rep, q2, k.2, fin⟩
  · exact k.elim
theorem vg_sub {o i : Expr} {to ti : VTE} (ho : VE X o to) (hi : VE X i ti) (hp : ∀ {u w : TE}, PE X o u → PE X i w → PG X (.Subscript o i pos) (gSub u w rSetL)) : VG X (.Subscript o i pos) [] (vgSub to ti) := PG.imp (hp ho hi) fun v σ H Q h => by
  obtain ⟨R, F, A, e, s, Kp, rep, a, k, fin⟩ := h
  refine ⟨R, F, A, e, _, rep, k, fun so e1 x F1 A1 H1 k1 l1 p1 rep1 a1 => ⟨R, F1, A1, e1, _, rep1, k1, fun si e2 y F2 A2 H2 k2 l2 p2 rep2 a2 => ?_⟩⟩
  obtain ⟨d, e3, F3, k3, rep3, l3, a3⟩ := rep2.asD (a.le (l1.trans l2) (p1.trans p2)) k2
  have a2' := a2.le l3 (pfx_refl A2)
  have a1' := a1.le (l2.trans l3) p2
  have lz := (l1.trans l2).trans l3
  have pz := p1.trans p2
  cases so with
  | val _ => exact False.elim k3
  | kn _ => exact False.elim k3
  | exc _ => exact False.elim k3
  | obj j =>
    replace k3 : (match pk si e3 with | some (.int k) => (match e3.st[j]? with | some (some (.l ds)) => ∃ n, ixN ds.length k = some n ∧ Kp ⟨e3.sl, e3.st.set j (some (.l (ds.set n d)))⟩ | _ => False) | _ => False) := k3
    split at k3
    · rename_i k hk
      split at k3
      · rename_i ds hd
        obtain ⟨n, hn, k4⟩ := k3
        obtain ⟨b, eb, rfl⟩ := a1'
        obtain ⟨b', xs, q1, q2, q3, q4⟩ := rep3.lst hd
        rw [eb] at q1
        cases q1
        refine ⟨b, xs, k, n, rfl, (rep3.pk a2' hk).int, q3, by rw [q4.len]; exact hn, fin _ _ _ _ _ k4 lz pz (Off.refl _ _) (rep3.write eb hd (q4.set a3 n))⟩
      · exact k3.elim
    · exact k3.elim
theorem vss_nil : VSs X [] vNext := PSs.imp pss_nil fun D σ H h => by
  obtain ⟨R, F, A, e, DV, rep, k, fin⟩ := h
  exact fin.nx e σ F A H k (Le.refl F) (pfx_refl A) rep
theorem vss_one {st : Stmt} {t : VTS} (h : VS X st t) : VSs X [st] t := pss_one h
theorem vss_cons {st : Stmt} {rest : List Stmt} {t u : VTS} (h1 : VS X st t) (h2 : VSs X rest u) : VSs X (st :: rest) (vSeq t u) := PSs.imp (pss_cons h1 h2) fun D σ H h => by
  obtain ⟨R, F, A, e, DV, rep, k, fin⟩ := h
  exact ⟨R, F, A, e, _, rep, k, fun e1 σ1 F1 A1 H1 k1 l1 p1 rep1 => ⟨R, F1, A1, e1, DV, rep1, k1, fin.tr l1 p1⟩, fin.bk, fin.ct, fin.rt, fin.ex⟩
def vBreak : VTS := fun D e => D.bk e
def vCont : VTS := fun D e => D.ct e
def vDrop (t : VTE) : VTS := fun D e => t e fun _ e1 => D.nx e1
theorem vs_expr {ex : Expr} {t : VTE} (he : VE X ex t) (hs : swapsWith ex none pos.line X.env = pure false := by rfl) : VS X (.Expr ex pos) (vDrop t) := PS.imp (ps_expr he hs) fun D σ H h => by
  obtain ⟨R, F, A, e, DV, rep, k, fin⟩ := h
  exact ⟨R, F, A, e, _, rep, k, fun s e1 v F1 A1 H1 k1 l1 p1 rep1 a1 => fin.nx _ _ _ _ _ k1 l1 p1 rep1⟩
def vRet (t : VTE) : VTS := fun D e => t e D.rt
theorem vs_ret {ex : Expr} {t : VTE} (he : VE X ex t) : VS X (.Return (some ex) pos) (vRet t) := PS.imp (ps_ret he) fun D σ H h => by
  obtain ⟨R, F, A, e, DV, rep, k, fin⟩ := h
  exact ⟨R, F, A, e, _, rep, k, fun s e1 v F1 A1 H1 k1 l1 p1 rep1 a1 => fin.rt _ _ _ _ _ _ _ k1 l1 p1 rep1 a1⟩
def vRetN : VTS := fun D e => D.rt (.val .none) e
def vIfS (c : VTT) (t u : VTS) : VTS := fun D e => c e fun b e1 => if b = true then t D e1 else u D e1
theorem vs_if {c : Expr} {a b : List Stmt} {tc : VTT} {t u : VTS} (hc : VT X c tc) (ha : VSs X a t) (hb : VSs X b u) : VS X (.If c a b pos) (vIfS tc t u) := PS.imp (ps_if hc ha hb) fun D σ H h => by
  obtain ⟨R, F, A, e, DV, rep, k, fin⟩ := h
  refine ⟨R, F, A, e, _, rep, k, fun b e1 F1 A1 H1 k1 l1 p1 rep1 => ?_⟩
  cases b with
  | true => exact ⟨R, F1, A1, e1, DV, rep1, k1, fin.tr l1 p1⟩
  | false => exact ⟨R, F1, A1, e1, DV, rep1, k1, fin.tr l1 p1⟩
def vSet (i : Nat) (t : VTE) : VTS := fun D e => t e fun s e1 => D.nx ⟨e1.sl.set i (some s), e1.st⟩
theorem lift_set {i : Nat} {t : VTE} {te : TE} (D : Ends) (σ : L2.St) (H : Hp) (hte : ∀ Q, liftE X.K t σ H Q → te σ H Q) (h : liftS X (vSet i t) D σ H) : tAsg te (gName i) D σ H := by
  obtain ⟨R, F, A, e, DV, rep, k, fin⟩ := h
  exact hte _ ⟨R, F, A, e, _, rep, k, fun s e1 v F1 A1 H1 k1 l1 p1 rep1 a1 => fin.nx _ _ _ _ _ k1 l1 p1 (rep1.put a1)⟩
theorem vs_set {i : Nat} {x : Str} {ex : Expr} {t : VTE} {pos' : Pos} (hN : X.N.Nodup) (hi : X.N[i]? = some x) (hx : Loc X.env.scope x) (he : VE X ex t) (hs : swapsWith ex (some (.Name x pos')) pos.line X.env = pure false := by rfl) (hf : X.fn x = true ∨ X.env.scope.names.lookup x = some .local := by first | exact .inl rfl | exact .inr rfl | assumption) :
    VS X (.Assign [.Name x pos'] ex pos) (vSet i t) := PS.imp (ps_set hN hi hx he hs hf) fun D σ H h => lift_set D σ H (fun _ q => q) h
def vAsg (t : VTE) (g : VTG) : VTS := fun D e => t e fun s e1 => g s e1 D.nx
theorem vs_asg {tg ex : Expr} {t : VTE} {g : VTG} {ws : List Nat} (he : VE X ex t) (hg : VG X tg ws g) (hs : swapsWithSole [tg] ex pos.line X.env = pure false := by rfl) (hw : swappedStores [tg] ex X.env = pure none := by rfl) (h1 : (assignEach [tg] X.env).map (·.2) = [assign tg X.env] := by rfl) : VS X (.Assign [tg] ex pos) (vAsg t g) := PS.imp (ps_asg he hg hs hw h1) fun D σ H h => by
  obtain ⟨R, F, A, e, DV, rep, k, fin⟩ := h
  exact ⟨R, F, A, e, _, rep, k, fun s e1 v F1 A1 H1 k1 l1 p1 rep1 a1 => ⟨R, F1, A1, e1, s, DV.nx, rep1, a1, k1, fun e2 σ2 F2 A2 H2 k2 l2 p2 o2 rep2 => fin.nx _ _ _ _ _ k2 (l1.trans l2) (p1.trans p2) rep2⟩⟩
end
def dropNone {α : Type} : List (Option α) → List (Option α)
  | [] => []
  | x :: xs => match x, dropNone xs with
    | none, [] => []
    | x, r => x :: r
theorem dropNone_pre {α : Type} : ∀ l : List (Option α), dropNone l <+: l
  | [] => List.prefix_refl _
  | x :: xs => by
    have ih := dropNone_pre xs
    unfold dropNone
    split
    · exact List.nil_prefix
    · exact (List.prefix_cons_inj _).mpr ih
def clr (m : Nat) : Option Sl → Option Sl
  | some (.obj j) => if j < m then some (.obj j) else none
  | s => s
theorem clr_n (m : Nat) : clr m none = none := rfl
theorem clr_v (m : Nat) (d : D) : clr m (some (.val d)) = some (.val d) := rfl
theorem clr_k (m : Nat) (d : List D) : clr m (some (.kn d)) = some (.kn d) := rfl
theorem clr_o (m j : Nat) : clr m (some (.obj j)) = if j < m then some (.obj j) else none := rfl
def isMo : Option Ob → Bool
  | some (.mo _) => true
  | _ => false
def trimS (n : Nat) (st : List (Option Ob)) : List (Option Ob) := st.take n ++ dropNone (st.drop n)
def En.trim (n : Nat) (e : En) : En := if e.st.any isMo = true then e else ⟨e.sl.map (clr (trimS n e.st).length), trimS n e.st⟩
theorem trimS_pre (n : Nat) (st : List (Option Ob)) : trimS n st <+: st := by
  obtain ⟨t, ht⟩ := dropNone_pre (st.drop n)
  refine ⟨t, ?_⟩
  show st.take n ++ dropNone (st.drop n) ++ t = st
  rw [List.append_assoc, ht, List.take_append_drop]
theorem ObAt.noMo {K : PySem.W.Frag} {F : Hp} {A B : List Addr} {h : Option HO} : ∀ {ob : Ob}, isMo (Option.some ob) = false → ObAt K F A h ob → ObAt K F B h ob
  | .l _, _, x => x
  | .m _, _, x => x
  | .mo _, n, _ => by cases n
  | .lk _ _ _, _, x => x
theorem Rep.trim {K : PySem.W.Frag} {R F : Hp} {A A1 : List Addr} {σ : L2.St} {H : Hp} {e : En} (r : Rep K R F A σ H e) {n : Nat} (p : A1 <+: A) (hn : A1.length = n) : ∃ A', A1 <+: A' ∧ Rep K R F A' σ H (e.trim n) := by
  by_cases hmo : e.st.any isMo = true
  · refine ⟨A, p, ?_⟩
    unfold En.trim
    rw [if_pos hmo]
    exact r
  have et : e.trim n = ⟨e.sl.map (clr (trimS n e.st).length), trimS n e.st⟩ := by
    unfold En.trim
    rw [if_neg hmo]
  rw [et]
  have pre := trimS_pre n e.st
  have hm : (trimS n e.st).length ≤ e.st.length := pre.length_le
  have pa : A.take (trimS n e.st).length <+: A := List.take_prefix _ _
  refine ⟨A.take (trimS n e.st).length, ?_, r.sub, r.keep, fun a o z => ⟨(r.apart a o z).1, fun hm => (r.apart a o z).2 (List.mem_of_mem_take hm)⟩, by simp [r.len], ?_, ?_, fun a ha => r.live a (List.mem_of_mem_take ha), fun i s z => ?_, fun j ob z => ?_, r.tabs.sub fun a ha => List.mem_of_mem_take ha⟩
  · have h1 : A1.length ≤ A.length := p.length_le
    have h2 : n ≤ (trimS n e.st).length := by
      show n ≤ (e.st.take n ++ dropNone (e.st.drop n)).length
      rw [List.length_append, List.length_take, r.lenA]
      omega
    exact List.prefix_of_prefix_length_le p pa (by rw [List.length_take, ← r.lenA]; have := r.lenA; omega)
  · show (trimS n e.st).length = _
    rw [List.length_take, ← r.lenA]
    omega
  · exact (List.take_sublist _ _).nodup r.nodup
  · have z' : (e.sl.map (clr (trimS n e.st).length))[i]? = some (some s) := z
    rw [List.getElem?_map] at z'
    obtain ⟨t, ht, hs⟩ := Option.map_eq_some_iff.mp z'
    cases t with
    | none => cases hs
    | some t =>
      obtain ⟨v, h1, h2⟩ := r.slot i t ht
      cases t with
      | val d =>
        cases hs
        exact ⟨v, h1, h2⟩
      | kn d =>
        cases hs
        exact ⟨v, h1, h2⟩
      | exc d =>
        cases hs
        exact ⟨v, h1, h2⟩
      | obj j =>
        replace hs : (if j < (trimS n e.st).length then some (Sl.obj j) else none) = some s := hs
        split at hs
        · rename_i hj
          cases hs
          obtain ⟨a, e1, e2⟩ := h2
          exact ⟨v, h1, a, by rw [List.getElem?_take_of_lt hj]; exact e1, e2⟩
        · cases hs
  · have z' : (trimS n e.st)[j]? = some (some ob) := z
    have hj := (List.getElem?_eq_some_iff.mp z').1
    have z2 : e.st[j]? = some (some ob) := by
      obtain ⟨t, ht⟩ := pre
      rw [← ht, List.getElem?_append_left hj]
      exact z'
    obtain ⟨a, h1, h2, h3⟩ := r.store j ob z2
    refine ⟨a, by rw [List.getElem?_take_of_lt hj]; exact h1, h2, h3.noMo ?_⟩
    cases q : isMo (some ob) with
    | false => rfl
    | true => exact absurd (List.any_eq_true.mpr ⟨_, List.mem_of_getElem? z2, q⟩) hmo
def okc (c : Option (En → Prop)) (e : En) : Prop := match c with
  | none => True
  | some c => c e
def wth (c : Option (En → Prop)) (e : En) (p : Prop) : Prop := match c with
  | none => p
  | some c => c e ∧ p
theorem wth_ok {c : Option (En → Prop)} {e : En} {p : Prop} (h : wth c e p) : okc c e ∧ p := by
  cases c with
  | none => exact ⟨trivial, h⟩
  | some c => exact h
structure ItOk (K : PySem.W.Frag) (F : Hp) (A : List Addr) (chk : Option (En → Prop)) (ds : List D) (J : It) : Prop where
  go : ∀ {R F' : Hp} {A' : List Addr} {σ' : L2.St} {H' : Hp} {e' : En} (i : Nat) (d : D), ds[i]? = some d → Le F F' → A <+: A' → Rep K R F' A' σ' H' e' → okc chk e' → J.go i H' ∧ ∀ x H3, J.yld i H' x H3 → ∃ F3, Le F' F3 ∧ Rep K R F3 A' σ' H3 e' ∧ At K F3 d x
  stop : ∀ {R F' : Hp} {A' : List Addr} {σ' : L2.St} {H' : Hp} {e' : En}, Le F F' → A <+: A' → Rep K R F' A' σ' H' e' → okc chk e' → J.stop ds.length H'
abbrev VTI := En → (List D → Option (En → Prop) → En → Prop) → Prop
def liftI (K : PySem.W.Frag) (w : VTI) : TI := fun σ H Q => ∃ R F A e Kp, Rep K R F A σ H e ∧ w e Kp ∧ ∀ ds chk e' F' A' H' J, Kp ds chk e' → Le F F' → A <+: A' → Rep K R F' A' σ H' e' → ItOk K F' A' chk ds J → Q J H'
def VI (X : Cx) (tg it : Expr) (w : VTI) : Prop := PI X tg it (liftI X.K w)
def fl (g : VTG) (tb : VTS) (chk : Option (En → Prop)) (n : Nat) : List D → VEnds → En → Prop
  | [], D, e => wth chk e (D.nx e)
  | d :: ds, D, e => wth chk e (g (.val d) e fun e1 => tb { D with nx := fun e' => fl g tb chk n ds D (e'.trim n), ct := fun e' => fl g tb chk n ds D (e'.trim n), bk := D.nx } e1)
def vFor (w : VTI) (g : VTG) (tb : VTS) : VTS := fun D e => w e fun ds chk e1 => fl g tb chk e1.st.length ds D e1
def chkOf (s : Sl) (ds : List D) : Option (En → Prop) := match s with
  | .obj j => some fun e => e.st[j]? = some (some (.l ds))
  | _ => none
def vSeqI (t : VTE) : VTI := fun e Kp => t e fun s e1 => match pk s e1 with
  | some (.list ds) => Kp ds (chkOf s ds) e1
  | _ => False
def vTupI (t : VTE) : VTI := fun e Kp => t e fun s e1 => match pk s e1 with
  | some (.tuple ds) => Kp ds none e1
  | _ => False
section
variable {X : Cx} {tg a b : Expr} {ta : VTE} {pos : Pos}
/-- a list that is walked stands as it did -/
theorem seq_at {K : PySem.W.Frag} {R R' F F' : Hp} {A A' : List Addr} {σ σ' : L2.St} {H H' : Hp} {e e' : En} {s : Sl} {v : V} {ds : List D} (rep : Rep K R F A σ H e) (a : SlAt K F A v s) (h : pk s e = some (.list ds)) (l : Le F F') (p : A <+: A') (rep' : Rep K R' F' A' σ' H' e') (c : okc (chkOf s ds) e') :
    ∃ q xs, v = .ref q ∧ SqL K H' q xs ∧ AtL K F' ds xs := by
  cases s with
  | val d =>
    cases h
    exact rep'.pk (s := .val (.list ds)) (d := .list ds) (a.le l p) rfl
  | kn d =>
    cases h
    exact rep'.pk (s := .kn ds) (d := .list ds) (SlAt.le (x := .kn ds) l p a) rfl
  | exc d => cases h
  | obj j =>
    have c' : e'.st[j]? = some (some (.l ds)) := c
    refine rep'.pk (s := .obj j) (d := .list ds) (SlAt.le (x := .obj j) l p a) ?_
    show (match e'.st[j]? with | some (some (.l ds)) => some (PyData.list ds) | _ => none) = _
    rw [c']
theorem vi_list (ha : VE X a ta) : VI X tg a (vSeqI ta) := PI.imp (pi_list ha) fun σ H Q h => by
  obtain ⟨R, F, A, e, Kp, rep, k, fin⟩ := h
  refine ⟨R, F, A, e, _, rep, k, fun s e1 v F1 A1 H1 k1 l1 p1 rep1 a1 => ?_⟩
  split at k1
  · rename_i ds hd
    obtain ⟨q, xs, rfl, q1, q2⟩ := rep1.pk a1 hd
    refine ⟨q, rfl, ⟨xs, q1⟩, fin _ _ _ _ _ _ _ k1 l1 p1 rep1 ⟨fun {R' F' A' σ' H' e'} i d hi l p rep' c => ?_, fun {R' F' A' σ' H' e'} l p rep' c => ?_⟩⟩
    · obtain ⟨q', ys, ev, r1, r2⟩ := seq_at rep1 a1 hd l p rep' c
      cases ev
      obtain ⟨u, hu, au⟩ := r2.get hi
      refine ⟨⟨ys, u, r1, hu⟩, fun x H3 y => ?_⟩
      obtain ⟨rfl, y⟩ := y
      have := y ys r1
      rw [hu] at this
      cases this
      exact ⟨F', Le.refl _, rep', au⟩
    · obtain ⟨q', ys, ev, r1, r2⟩ := seq_at rep1 a1 hd l p rep' c
      cases ev
      exact ⟨ys, r1, by rw [r2.len]; exact Nat.le_refl _⟩
  · exact k1.elim
theorem vi_tup (ha : VE X a ta) : VI X tg a (vTupI ta) := PI.imp (pi_tup ha) fun σ H Q h => by
  obtain ⟨R, F, A, e, Kp, rep, k, fin⟩ := h
  refine ⟨R, F, A, e, _, rep, k, fun s e1 v F1 A1 H1 k1 l1 p1 rep1 a1 => ?_⟩
  split at k1
  · rename_i ds hd
    obtain ⟨q, xs, rfl, q1, q2⟩ := (rep1.pk a1 hd).tup
    refine ⟨q, rfl, ⟨xs, sqT_le rep1.sub q1⟩, fin _ _ _ _ _ _ _ k1 l1 p1 rep1 ⟨fun {R' F' A' σ' H' e'} i d hi l p rep' c => ?_, fun {R' F' A' σ' H' e'} l p rep' c => ?_⟩⟩
    · obtain ⟨u, hu, au⟩ := q2.get hi
      have sq := sqT_le rep'.sub (sqT_le l q1)
      refine ⟨⟨xs, u, sq, hu⟩, fun x H3 y => ?_⟩
      obtain ⟨rfl, y⟩ := y
      have := y xs sq
      rw [hu] at this
      cases this
      exact ⟨F', Le.refl _, rep', At.le l _ _ au⟩
    · exact ⟨xs, sqT_le rep'.sub (sqT_le l q1), by rw [q2.len]; exact Nat.le_refl _⟩
  · exact k1.elim
def rng (lo : Int) (n : Nat) : List D := (List.range n).map fun i => PyData.int (lo + (i : Nat))
theorem rng_len (lo : Int) (n : Nat) : (rng lo n).length = n := by simp [rng]
theorem rng_get {lo : Int} {n i : Nat} {d : D} (h : (rng lo n)[i]? = some d) : i < n ∧ d = .int (lo + (i : Nat)) := by
  have hi := (List.getElem?_eq_some_iff.mp h).1
  rw [rng_len] at hi
  refine ⟨hi, ?_⟩
  unfold rng at h
  rw [List.getElem?_map, List.getElem?_range hi] at h
  simp at h
  exact h.symm
theorem it_rng {K : PySem.W.Frag} {F : Hp} {A : List Addr} {lo : Int} {n : Nat} : ItOk K F A none (rng lo n) (Itr lo n) :=
  ⟨fun {R' F' A' σ' H' e'} i d hi l p rep' c => by
    obtain ⟨h1, rfl⟩ := rng_get hi
    refine ⟨h1, fun x H3 y => ?_⟩
    obtain ⟨rfl, rfl⟩ := y
    exact ⟨F', Le.refl _, rep', .int _⟩,
   fun {R' F' A' σ' H' e'} l p rep' c => by
    show n ≤ (rng lo n).length
    rw [rng_len]
    exact Nat.le_refl _⟩
def vRng1 (t : VTA) : VTI := fun e Kp => t e fun ss e1 => match ss with
  | [s] => (match pk s e1 with
    | some (.int j) => -(2 ^ 62) ≤ j ∧ j < 2 ^ 62 ∧ Kp (rng 0 j.toNat) none e1
    | _ => False)
  | _ => False
def vRng2 (t : VTA) : VTI := fun e Kp => t e fun ss e1 => match ss with
  | [s, u] => (match pk s e1, pk u e1 with
    | some (.int i), some (.int j) => (-(2 ^ 62) ≤ i ∧ i < 2 ^ 62 ∧ -(2 ^ 62) ≤ j ∧ j < 2 ^ 62) ∧ Kp (rng i (j - i).toNat) none e1
    | _, _ => False)
  | _ => False
theorem vi_range1 {t : VTA} {p pos : Pos} (hg : Gl X "range") (hm : X.mg "range" = none) (ha : VA X [a] t) (hs : starEach [a] X.env = [(false, eval a X.env)] := by rfl) : VI X tg (.Call (.Name "range" p) [a] [] pos) (vRng1 t) := PI.imp (pi_range1 hg hm ha hs) fun σ H Q h => by
  obtain ⟨R, F, A, e, Kp, rep, k, fin⟩ := h
  refine ⟨R, F, A, e, _, rep, k, fun ss e1 vs F1 A1 H1 k1 l1 p1 rep1 a1 => ?_⟩
  split at k1
  · obtain ⟨x, rfl, a2⟩ := a1.one
    split at k1
    · rename_i j hj
      exact ⟨j, by rw [(rep1.pk a2 hj).int], k1.1, k1.2.1, fin _ _ _ _ _ _ _ k1.2.2 l1 p1 rep1 it_rng⟩
    · exact k1.elim
  · exact k1.elim
/-- pairs: a place and a thing; two things -/
def enumD : Nat → List D → List D
  | _, [] => []
  | k, d :: ds => .tuple [.int (k : Nat), d] :: enumD (k + 1) ds
def zipD : List D → List D → List D
  | d :: ds, c :: cs => .tuple [d, c] :: zipD ds cs
  | _, _ => []
def vEnum (t : VTA) : VTI := fun e Kp => t e fun ss e1 => match ss with
  | [s] => (match pk s e1 with
    | some (.list ds) => Kp (enumD 0 ds) (chkOf s ds) e1
    | _ => False)
  | _ => False
def both (c d : Option (En → Prop)) : Option (En → Prop) := match c, d with
  | none, x => x
  | x, none => x
  | some c, some d => some fun e => c e ∧ d e
def vZip (t : VTA) : VTI := fun e Kp => t e fun ss e1 => match ss with
  | [s, u] => (match pk s e1, pk u e1 with
    | some (.list ds), some (.list cs) => Kp (zipD ds cs) (both (chkOf s ds) (chkOf u cs)) e1
    | _, _ => False)
  | _ => False
end
end Vl
namespace Vl
open PySem L2
theorem wipe_not {σ : L2.St} {i : Nat} : ∀ {vs : List Nat}, i ∉ vs → (wipe σ vs)[i]? = σ[i]?
  | [], _ => rfl
  | v :: vs, h => by
    have h1 : v ≠ i := fun z => h (by simp [z])
    show ((wipe σ vs).set v none)[i]? = _
    rw [List.getElem?_set_ne h1]
    exact wipe_not fun z => h (List.mem_cons_of_mem _ z)
theorem wipe_is {σ : L2.St} {i : Nat} : ∀ {vs : List Nat}, i ∈ vs → i < σ.length → (wipe σ vs)[i]? = some none
  | [], h, _ => by cases h
  | v :: vs, h, hl => by
    show ((wipe σ vs).set v none)[i]? = _
    by_cases q : v = i
    · subst q
      rw [List.getElem?_set_self (by rw [wipe_length]; exact hl)]
    · rw [List.getElem?_set_ne q]
      refine wipe_is ?_ hl
      rcases List.mem_cons.mp h with z | z
      · exact absurd z.symm q
      · exact z
theorem wipe_off {ws vs : List Nat} {σ σ2 : L2.St} (o : Off ws (wipe σ vs) σ2) (hw : ∀ i ∈ ws, i ∈ vs) : wipe σ2 vs = wipe σ vs := by
  have hl : σ2.length = σ.length := by rw [o.1, wipe_length]
  refine List.ext_getElem? fun i => ?_
  by_cases q : i ∈ vs
  · rcases Nat.lt_or_ge i σ.length with h | h
    · rw [wipe_is q h, wipe_is q (by omega)]
    · rw [List.getElem?_eq_none (by rw [wipe_length]; omega), List.getElem?_eq_none (by rw [wipe_length]; omega)]
  · rw [wipe_not q]
    exact o.2 i fun z => q (hw i z)
def wipeE (sl : List (Option Sl)) : List Nat → List (Option Sl)
  | [] => sl
  | v :: vs => (wipeE sl vs).set v none
def En.wipe (e : En) (vs : List Nat) : En := ⟨wipeE e.sl vs, e.st⟩
theorem wipeE_len (sl : List (Option Sl)) : ∀ vs, (wipeE sl vs).length = sl.length
  | [] => rfl
  | v :: vs => by
    show ((wipeE sl vs).set v none).length = _
    rw [List.length_set, wipeE_len sl vs]
theorem wipeE_at {sl : List (Option Sl)} {i : Nat} {s : Sl} : ∀ {vs : List Nat}, (wipeE sl vs)[i]? = some (some s) → i ∉ vs ∧ sl[i]? = some (some s)
  | [], h => ⟨by simp, h⟩
  | v :: vs, h => by
    have h' : ((wipeE sl vs).set v none)[i]? = some (some s) := h
    by_cases q : v = i
    · subst q
      have hl : v < (wipeE sl vs).length := by
        have := (List.getElem?_eq_some_iff.mp h').1
        simpa using this
      rw [List.getElem?_set_self hl] at h'
      cases h'
    · rw [List.getElem?_set_ne q] at h'
      obtain ⟨h1, h2⟩ := wipeE_at h'
      exact ⟨fun z => by
        rcases List.mem_cons.mp z with z | z
        · exact q z.symm
        · exact h1 z, h2⟩
/-- no name of vs has a value -/
def Bare (vs : List Nat) (e : En) : Prop := ∀ (i : Nat) (s : Sl), e.sl[i]? = some (some s) → i ∉ vs
theorem bare_wipe (vs : List Nat) (e : En) : Bare vs (e.wipe vs) := fun i s h => (wipeE_at h).1
theorem bare_trim {vs : List Nat} {e : En} (b : Bare vs e) (n : Nat) : Bare vs (e.trim n) := fun i s h => by
  by_cases hmo : e.st.any isMo = true
  · unfold En.trim at h
    rw [if_pos hmo] at h
    exact b i s h
  have h' : (e.sl.map (clr (trimS n e.st).length))[i]? = some (some s) := by
    unfold En.trim at h
    rw [if_neg hmo] at h
    exact h
  rw [List.getElem?_map] at h'
  obtain ⟨t, ht, hs⟩ := Option.map_eq_some_iff.mp h'
  cases t with
  | none => cases hs
  | some t => exact b i t ht
section
variable {K : PySem.W.Frag} {R F : Hp} {A : List Addr} {σ : L2.St} {H : Hp} {e : En}
theorem Rep.wiped (r : Rep K R F A σ H e) (vs : List Nat) : Rep K R F A (wipe σ vs) H (e.wipe vs) := by
  refine r.weak (by rw [wipeE_len, wipe_length]; exact r.len) fun i s h => ?_
  obtain ⟨h1, h2⟩ := wipeE_at h
  obtain ⟨v, h3, h4⟩ := r.slot i s h2
  exact ⟨v, by rw [wipe_not h1]; exact h3, h4⟩
theorem Rep.wiped2 {ws vs : List Nat} {σ2 : L2.St} (r : Rep K R F A σ2 H e) (o : Off ws (wipe σ vs) σ2) (hw : ∀ i ∈ ws, i ∈ vs) : Rep K R F A (wipe σ vs) H (e.wipe vs) := by
  refine r.weak (by rw [wipeE_len, r.len, o.1]) fun i s h => ?_
  obtain ⟨h1, h2⟩ := wipeE_at h
  obtain ⟨v, h3, h4⟩ := r.slot i s h2
  exact ⟨v, by rw [← o.2 i fun z => h1 (hw i z)]; exact h3, h4⟩
theorem Rep.unwipe {vs : List Nat} (r : Rep K R F A (wipe σ vs) H e) (b : Bare vs e) : Rep K R F A σ H e := by
  refine r.weak (by rw [r.len, wipe_length]) fun i s h => ?_
  obtain ⟨v, h3, h4⟩ := r.slot i s h
  exact ⟨v, by rw [← wipe_not (b i s h)]; exact h3, h4⟩
/-- a new list that is kept -/
theorem Rep.hold (r : Rep K R F A σ H e) {p : Addr} (hp : H p = none) (o : HO) : Rep K (upd R p o) F A σ (upd H p o) e := by
  have hF : F p = none := r.sub.free hp
  have hA : p ∉ A := fun hm => by
    obtain ⟨u, hu⟩ := r.live p hm
    rw [hu] at hp
    cases hp
  have l2 := Le.new (o := o) hp
  refine ⟨r.sub.trans l2, fun b u z => ?_, fun a u z => ?_, r.len, r.lenA, r.nodup, fun a ha => ?_, r.slot, fun j ds z => ?_, r.tabs.hold hp⟩
  · by_cases q : b = p
    · subst q
      rw [upd_same] at z ⊢
      exact z
    · rw [upd_ne q] at z ⊢
      exact r.keep _ _ z
  · by_cases q : a = p
    · subst q
      exact ⟨hF, hA⟩
    · rw [upd_ne q] at z
      exact r.apart a u z
  · obtain ⟨u, hu⟩ := r.live a ha
    exact ⟨u, l2 _ _ hu⟩
  · obtain ⟨a, h1, h2, h3⟩ := r.store j ds z
    exact ⟨a, h1, h2, h3.le (Le.refl F) (pfx_refl A) fun u e => l2 _ _ e⟩
/-- what is kept is changed by its keeper -/
theorem Rep.rehold {p : Addr} {o o' : HO} (r : Rep K (upd R p o) F A σ H e) : Rep K (upd R p o') F A σ (upd H p o') e := by
  obtain ⟨hF, hA⟩ := r.apart p o upd_same
  refine ⟨fun b u z => ?_, fun b u z => ?_, fun a u z => ?_, r.len, r.lenA, r.nodup, fun a ha => ?_, r.slot, fun j ds z => ?_, r.tabs.rehold⟩
  · have q : b ≠ p := fun q => by
      rw [q, hF] at z
      cases z
    rw [upd_ne q]
    exact r.sub _ _ z
  · by_cases q : b = p
    · subst q
      rw [upd_same] at z ⊢
      exact z
    · rw [upd_ne q] at z ⊢
      exact r.keep b u (by rw [upd_ne q]; exact z)
  · by_cases q : a = p
    · subst q
      exact ⟨hF, hA⟩
    · rw [upd_ne q] at z
      exact r.apart a u (by rw [upd_ne q]; exact z)
  · have q : a ≠ p := fun q => hA (q ▸ ha)
    obtain ⟨u, hu⟩ := r.live a ha
    exact ⟨u, by rw [upd_ne q]; exact hu⟩
  · obtain ⟨a, h1, h2, h3⟩ := r.store j ds z
    have q : a ≠ p := fun q => hA (by rw [← q]; exact List.mem_of_getElem? h1)
    exact ⟨a, h1, h2, by rw [upd_ne q]; exact h3⟩
/-- what is kept stands still from now on -/
theorem Rep.give {p : Addr} {o : HO} (r : Rep K (upd R p o) F A σ H e) (hR : R p = none) : Rep K R (upd F p o) A σ H e ∧ Le F (upd F p o) := by
  obtain ⟨hF, hA⟩ := r.apart p o upd_same
  have l := Le.new (o := o) hF
  have kR : Le R (upd R p o) := Le.new hR
  refine ⟨⟨fun b u z => ?_, kR.trans r.keep, fun a u z => ?_, r.len, r.lenA, r.nodup, r.live, fun i s z => ?_, fun j ds z => ?_, r.tabs.give⟩, l⟩
  · by_cases q : b = p
    · subst q
      rw [upd_same] at z
      cases z
      exact r.keep _ _ upd_same
    · rw [upd_ne q] at z
      exact r.sub _ _ z
  · have q : a ≠ p := fun q => by
      rw [q, hR] at z
      cases z
    obtain ⟨h1, h2⟩ := r.apart a u (kR _ _ z)
    exact ⟨by rw [upd_ne q]; exact h1, h2⟩
  · obtain ⟨v, h1, h2⟩ := r.slot i s z
    exact ⟨v, h1, h2.le l (pfx_refl A)⟩
  · obtain ⟨a, h1, h2, h3⟩ := r.store j ds z
    have q : a ≠ p := fun q => hA (by rw [← q]; exact List.mem_of_getElem? h1)
    exact ⟨a, h1, by rw [upd_ne q]; exact h2, h3.le l (pfx_refl A) fun _ e => e⟩
/-- what is kept goes into the store -/
theorem Rep.giveOb {p : Addr} {o : HO} {ob : Ob} (r : Rep K (upd R p o) F A σ H e) (hR : R p = none) (hx : ObAt K F (A ++ [p]) (some o) ob) : Rep K R F (A ++ [p]) σ H ⟨e.sl, e.st ++ [some ob]⟩ ∧ A <+: A ++ [p] := by
  obtain ⟨hF, hA⟩ := r.apart p _ upd_same
  have hH : H p = some o := r.keep _ _ upd_same
  have kR : Le R (upd R p o) := Le.new hR
  have pf : A <+: A ++ [p] := ⟨[p], rfl⟩
  refine ⟨⟨r.sub, kR.trans r.keep, fun a u z => ⟨(r.apart a u (kR _ _ z)).1, fun hm => ?_⟩, r.len, ?_, ?_, fun a ha => ?_, fun i s z => ?_, fun j cs z => ?_, r.tabs.giveOb⟩, pf⟩
  · rcases List.mem_append.mp hm with hm | hm
    · exact (r.apart a u (kR _ _ z)).2 hm
    · rw [List.mem_singleton.mp hm, hR] at z
      cases z
  · simp [r.lenA]
  · rw [List.nodup_append]
    exact ⟨r.nodup, by simp, fun a ha b hb q => hA (by rw [List.mem_singleton.mp hb] at q; exact q ▸ ha)⟩
  · rcases List.mem_append.mp ha with ha | ha
    · exact r.live a ha
    · rw [List.mem_singleton.mp ha]
      exact ⟨_, hH⟩
  · obtain ⟨v, h1, h2⟩ := r.slot i s z
    exact ⟨v, h1, h2.le (Le.refl F) pf⟩
  · have z' : (e.st ++ [some ob])[j]? = some (some cs) := z
    by_cases hj : j < e.st.length
    · rw [List.getElem?_append_left hj] at z'
      obtain ⟨a, h1, h2, h3⟩ := r.store j cs z'
      exact ⟨a, pfx_get pf h1, h2, h3.le (Le.refl F) pf fun _ e => e⟩
    · rw [List.getElem?_append_right (by omega)] at z'
      have hj0 : j - e.st.length = 0 := by
        rcases Nat.eq_zero_or_pos (j - e.st.length) with q | q
        · exact q
        · rw [List.getElem?_eq_none (by simp; omega)] at z'
          cases z'
      rw [hj0] at z'
      simp at z'
      subst z'
      refine ⟨p, ?_, hF, by rw [hH]; exact hx⟩
      rw [List.getElem?_append_right (by rw [← r.lenA]; omega), ← r.lenA, hj0] <;> rfl
end
/-- the turns of a comprehension: what is left, what is made -/
def cl (g : VTG) (tt : VTT) (te : VTE) (chk : Option (En → Prop)) (vs : List Nat) (n : Nat) : List D → List D → En → (List D → En → Prop) → Prop
  | [], acc, e, Kp => wth chk e (Kp acc e)
  | d :: ds, acc, e, Kp => wth chk e (g (.val d) e fun e1 => tt e1 fun b e2 => if b = true then te e2 fun s e3 => asD s e3 fun y e4 => acc.length < sizeLine ∧ cl g tt te chk vs n ds (acc ++ [y]) ((e4.wipe vs).trim n) Kp
      else cl g tt te chk vs n ds acc ((e2.wipe vs).trim n) Kp)
def vLcK (w : VTI) (g : VTG) (tt : VTT) (te : VTE) (vs : List Nat) (fin : List D → En → KE → Prop) : VTE := fun e Kp => w e fun ds chk e1 => cl g tt te chk vs e1.st.length ds [] (e1.wipe vs) fun acc e2 => fin acc e2 Kp
def finD (acc : List D) (e : En) (Kp : KE) : Prop := Kp (.val (.list acc)) e
def finO (acc : List D) (e : En) (Kp : KE) : Prop := Kp (.obj e.st.length) ⟨e.sl, e.st ++ [some (.l acc)]⟩
def VTs (X : Cx) (ifs : List Expr) (t : VTT) : Prop := PTs X ifs (liftT X.K t)
def vYes : VTT := fun e Kp => Kp true e
theorem PTs.imp {X : Cx} {ex : List Expr} {t t' : TT} (h : PTs X ex t) (f : ∀ σ H Q, t' σ H Q → t σ H Q) : PTs X ex t' := ⟨fun pins s σ H Q I q => h.run pins s σ H Q I (f σ H Q q)⟩
theorem vts_nil {X : Cx} : VTs X [] vYes := PTs.imp pts_nil fun σ H Q h => by
  obtain ⟨R, F, A, e, Kp, rep, k, fin⟩ := h
  exact fin true e F A H k (Le.refl F) (pfx_refl A) rep
theorem vts_one {X : Cx} {c : Expr} {t : VTT} (h : VT X c t) : VTs X [c] t := pts_one h
def FinL (K : PySem.W.Frag) (f : List D → En → KE → Prop) : Prop := ∀ {R F : Hp} {A : List Addr} {σ : L2.St} {H : Hp} {e : En} {p : Addr} {xs : List V} {acc : List D} {Kp : KE} {Q : VK}, Rep K (upd R p (.lst xs)) F A σ H e → R p = none → AtL K F acc xs → f acc e Kp → Fin K R F A σ Kp Q → Q (.ref p) H
theorem finD_ok {K : PySem.W.Frag} : FinL K finD := by
  intro R F A σ H e p xs acc Kp Q rep hR hx k fin
  obtain ⟨r2, l⟩ := rep.give hR
  exact (fin.tr l (pfx_refl A)).val r2 k (.lst upd_same (AtL.le l _ _ hx))
theorem lift_lc {K : PySem.W.Frag} {w : VTI} {g : VTG} {ws : List Nat} {tt : VTT} {te : VTE} {vs : List Nat} {f : List D → En → KE → Prop} (hf : FinL K f) (hw : ∀ i ∈ ws, i ∈ vs) (σ : L2.St) (H : Hp) (Q : VK) (h : liftE K (vLcK w g tt te vs f) σ H Q) :
    tLc (liftI K w) (liftG K ws g) (liftT K tt) (liftE K te) vs σ H Q := by
  obtain ⟨R, F, A, e, Kp, rep, k, fin⟩ := h
  refine ⟨R, F, A, e, _, rep, k, fun ds chk e1 F1 A1 H1 J k1 l1 p1 rep1 it => fun Dd hD => ?_⟩
  have hR : R Dd = none := rep1.keep.free hD
  refine ⟨fun i m H' => ∃ F' A' e' acc accV, m = ds.length - i ∧ i ≤ ds.length ∧ Le F1 F' ∧ A1 <+: A' ∧ Rep K (upd R Dd (.lst accV)) F' A' (wipe σ vs) H' e' ∧ Bare vs e' ∧ AtL K F' acc accV ∧ cl g tt te chk vs e1.st.length (ds.drop i) acc e' (fun acc e2 => f acc e2 Kp),
    ⟨_, F1, A1, e1.wipe vs, [], [], rfl, Nat.zero_le _, Le.refl _, pfx_refl _, (rep1.wiped vs).hold hD _, bare_wipe vs e1, .nil, k1⟩, ?_⟩
  rintro i m H' ⟨F', A', e', acc, accV, rfl, hi, l, p, rep', bare, hx, k⟩
  rcases Nat.lt_or_ge i ds.length with hlt | hge
  · right
    obtain ⟨d, hd⟩ : ∃ d, ds[i]? = some d := ⟨ds[i], by simp [hlt]⟩
    have hdr : ds.drop i = d :: ds.drop (i + 1) := by
      rw [List.drop_eq_getElem_cons hlt]
      rw [List.getElem?_eq_getElem hlt] at hd
      cases hd
      rfl
    rw [hdr] at k
    obtain ⟨kc, k⟩ := wth_ok k
    obtain ⟨g1, g2⟩ := it.go i d hd l p rep' kc
    refine ⟨g1, fun H2 => ∃ F' A' e' acc accV, ds.length - (i + 1) = ds.length - (i + 1) ∧ i + 1 ≤ ds.length ∧ Le F1 F' ∧ A1 <+: A' ∧ Rep K (upd R Dd (.lst accV)) F' A' (wipe σ vs) H2 e' ∧ Bare vs e' ∧ AtL K F' acc accV ∧ cl g tt te chk vs e1.st.length (ds.drop (i + 1)) acc e' (fun acc e2 => f acc e2 Kp),
      fun H2 q => ⟨ds.length - (i + 1), by omega, q⟩, fun x H3 y => ?_⟩
    obtain ⟨F3, l3, rep3, a3⟩ := g2 x H3 y
    refine ⟨_, F3, A', e', .val d, _, rep3, a3, k, fun e2 σ2 F2 A2 H2 k2 l2 p2 o2 rep2 => ⟨wipe_off o2 hw, _, F2, A2, e2, _, rep2, k2, fun b e3 F4 A4 H4 k4 l4 p4 rep4 => ?_⟩⟩
    have lf := ((l.trans l3).trans l2).trans l4
    have pf := (p.trans p2).trans p4
    cases b with
    | false =>
      have k4' : cl g tt te chk vs e1.st.length (ds.drop (i + 1)) acc ((e3.wipe vs).trim e1.st.length) (fun acc e2 => f acc e2 Kp) := k4
      obtain ⟨A5, p5, rep5⟩ := (rep4.wiped2 o2 hw).trim (A1 := A1) (n := e1.st.length) pf rep1.lenA.symm
      exact ⟨F4, A5, _, acc, accV, rfl, hlt, lf, p5, rep5, bare_trim (bare_wipe vs e3) _, AtL.le ((l3.trans l2).trans l4) _ _ hx, k4'⟩
    | true =>
      refine ⟨_, F4, A4, e3, _, rep4, k4, fun s e5 y5 F5 A5 H5 k5 l5 p5 rep5 a5 => ?_⟩
      obtain ⟨d', e6, F6, ⟨hl, k6⟩, rep6, l6, a6⟩ := rep5.asD a5 k5
      have lx := (((l3.trans l2).trans l4).trans l5).trans l6
      refine ⟨accV, rep6.keep _ _ upd_same, by rw [hx.len]; exact hl, ?_⟩
      obtain ⟨A7, p7, rep7⟩ := (rep6.wiped2 o2 hw).trim (A1 := A1) (n := e1.st.length) (pf.trans p5) rep1.lenA.symm
      exact ⟨F6, A7, _, acc ++ [d'], accV ++ [y5], rfl, hlt, l.trans lx, p7, rep7.rehold, bare_trim (bare_wipe vs e6) _, (AtL.le lx _ _ hx).app (AtL.one a6), k6⟩
  · left
    have e0 : i = ds.length := by omega
    subst e0
    rw [List.drop_length] at k
    obtain ⟨kc, k⟩ := wth_ok k
    refine ⟨it.stop l p rep' kc, ?_⟩
    exact hf (rep'.unwipe bare) hR hx k (fin.tr (l1.trans l) (p1.trans p))
section
variable {X : Cx} {elt tg iter : Expr} {ifs : List Expr} {scope : Scope} {own : List (Str × Nat)} {pos : Pos} {w : VTI} {g : VTG} {ws : List Nat} {tt : VTT} {te : VTE} {f : List D → En → KE → Prop}
theorem ve_lcK (hf : FinL X.K f) (hc : X.calm = true) (hN : X.N.Nodup) (hi : VI X tg iter w) (ok : BlkOk X.N X.env.scope scope own) (hw : ∀ i ∈ ws, i ∈ own.map (·.2))
    (hg : ∀ (s : Shared) (H : Hp) (C : Addr) (cl : List (Str × Addr)) (fp : List Addr), VG (X.blk s H scope (compEnvC scope cl C X.env) fp) tg ws g) (ht : ∀ (s : Shared) (H : Hp) (C : Addr) (cl : List (Str × Addr)) (fp : List Addr), VTs (X.blk s H scope (compEnvC scope cl C X.env) fp) ifs tt)
    (he : ∀ (s : Shared) (H : Hp) (C : Addr) (cl : List (Str × Addr)) (fp : List Addr), VE (X.blk s H scope (compEnvC scope cl C X.env) fp) elt te) (hs : ∀ x, foldedSetIterable iter X.env x = pure x := by intro _; rfl) :
    VE X (.ListComp elt [⟨tg, iter, ifs, 0⟩] scope pos) (vLcK w g tt te (own.map (·.2)) f) := PE.imp (pe_lc (g := liftG X.K ws g) (tt := liftT X.K tt) (te := liftE X.K te) hc hN hi ok hg ht he hs) fun σ H Q h => lift_lc hf hw σ H Q h
end
end Vl
namespace Vl
open PySem L2 PySem.Spec PyProof.Rows
abbrev VSp := List Sl → List Ob → (Sl → List Ob → Prop) → Prop
def spV (K : PySem.W.Frag) (p : VSp) : Sp := fun vs H Q _ => ∃ R F A ss st Kp, Rep K R F A (vs.map some) H ⟨ss.map some, st.map some⟩ ∧ p ss st Kp ∧
  ∀ s st' v F' A' H', Kp s st' → Le F F' → A <+: A' → Rep K R F' A' [some v] H' ⟨[some s], st'.map some⟩ → Q v H'
def mob : Ob → Bool
  | .mo _ => true
  | .lk _ _ _ => true
  | _ => false
def takeS : Nat → List (Option Ob) → Option (List Ob)
  | 0, _ => some []
  | n + 1, some ob :: r => if mob ob = true then none else (takeS n r).map (ob :: ·)
  | _ + 1, _ => none
def ret (n : Nat) (s : Sl) (e : En) (Kp : Sl → List Ob → Prop) : Prop := match takeS n e.st with
  | none => False
  | some st' => match s with
    | .val d => Kp (.val d) st'
    | .kn ds => Kp (.kn ds) st'
    | .exc _ => False
    | .obj j => if j < n then False else match e.st[j]? with
      | some (some ob) => if mob ob = true then False else Kp (.obj n) (st' ++ [ob])
      | _ => False
theorem takeS_step {n : Nat} {ob : Ob} {r : List (Option Ob)} {cs : List Ob} (h : takeS (n + 1) (some ob :: r) = some cs) : mob ob = false ∧ ∃ c, takeS n r = some c ∧ cs = ob :: c := by
  have h' : (if mob ob = true then none else (takeS n r).map (ob :: ·)) = some cs := h
  split at h'
  · cases h'
  · rename_i q
    obtain ⟨c, hc, rfl⟩ := Option.map_eq_some_iff.mp h'
    exact ⟨by simpa using q, c, hc, rfl⟩
theorem takeS_len : ∀ {n : Nat} {st : List (Option Ob)} {cs : List Ob}, takeS n st = some cs → cs.length = n
  | 0, _, _, h => by
    cases h
    rfl
  | n + 1, some ds :: r, cs, h => by
    obtain ⟨_, c, hc, rfl⟩ := takeS_step h
    rw [List.length_cons, takeS_len hc]
  | _ + 1, [], _, h => by cases h
  | _ + 1, none :: _, _, h => by cases h
theorem takeS_at : ∀ {n : Nat} {st : List (Option Ob)} {cs : List Ob} {j : Nat} {ds : Ob}, takeS n st = some cs → cs[j]? = some ds → st[j]? = some (some ds) ∧ mob ds = false
  | 0, _, _, _, _, h, g => by
    cases h
    simp at g
  | n + 1, some c :: r, cs, j, ds, h, g => by
    obtain ⟨q, b, hb, rfl⟩ := takeS_step h
    cases j with
    | zero =>
      simp at g
      subst g
      exact ⟨rfl, q⟩
    | succ j => exact takeS_at (j := j) hb (by simpa using g)
  | _ + 1, [], _, _, _, h, _ => by cases h
  | _ + 1, none :: _, _, _, _, h, _ => by cases h
theorem ObAt.noM {K : PySem.W.Frag} {F : Hp} {A B : List Addr} {h : Option HO} : ∀ {ob : Ob}, mob ob = false → ObAt K F A h ob → ObAt K F B h ob
  | .l _, _, x => x
  | .m _, _, x => x
  | .mo _, n, _ => by cases n
  | .lk _ _ _, n, _ => by cases n
section
variable {K : PySem.W.Frag} {R F : Hp} {A : List Addr} {σ : L2.St} {H : Hp} {e : En}
/-- a def ends: what it gives back, and the lists that were handed in -/
theorem ret_ok {F0 : Hp} {A0 : List Addr} {n : Nat} {s : Sl} {v : V} {Kp : Sl → List Ob → Prop} {Q : VK} (rep : Rep K R F A σ H e) (a : SlAt K F A v s) (hn : A0.length = n) (l : Le F0 F) (p : A0 <+: A) (k : ret n s e Kp)
    (fin : ∀ s st' v F' A' H', Kp s st' → Le F0 F' → A0 <+: A' → Rep K R F' A' [some v] H' ⟨[some s], st'.map some⟩ → Q v H') : Q v H := by
  unfold ret at k
  split at k
  · exact k.elim
  · rename_i st' hst
    have hl := takeS_len hst
    have hA0 : ∀ {j : Nat}, j < n → A0[j]? = A[j]? := fun {j} hj => by
      obtain ⟨t, rfl⟩ := p
      rw [List.getElem?_append_left (by omega)]
    have slo : ∀ (A' : List Addr) (t : Sl), SlAt K F A' v t → ∀ (i : Nat) (u : Sl), ([some t] : List (Option Sl))[i]? = some (some u) → ∃ w, ([some v] : L2.St)[i]? = some (some w) ∧ SlAt K F A' w u := fun A' t ha i u hu => by
      cases i with
      | zero =>
        have hu' : some (some t) = some (some u) := hu
        cases hu'
        exact ⟨v, rfl, ha⟩
      | succ i => simp at hu
    have sto : ∀ (j : Nat) (ds : Ob), (st'.map some)[j]? = some (some ds) → ∃ b, A0[j]? = some b ∧ F b = none ∧ ObAt K F A0 (H b) ds ∧ mob ds = false := fun j ds hj => by
      rw [List.getElem?_map] at hj
      obtain ⟨c, hc, ec⟩ := Option.map_eq_some_iff.mp hj
      cases ec
      obtain ⟨hs, hm⟩ := takeS_at hst hc
      obtain ⟨b, h1, h2, h3⟩ := rep.store j _ hs
      have hjn : j < n := by
        have := (List.getElem?_eq_some_iff.mp hc).1
        omega
      exact ⟨b, by rw [hA0 hjn]; exact h1, h2, h3.noM hm, hm⟩
    have mem : ∀ a ∈ A0, a ∈ A := fun a ha => p.subset ha
    have base : ∀ t, SlAt K F A0 v t → Rep K R F A0 [some v] H ⟨[some t], st'.map some⟩ := fun t ha =>
      ⟨rep.sub, rep.keep, fun a o z => ⟨(rep.apart a o z).1, fun hm => (rep.apart a o z).2 (mem a hm)⟩, rfl, by simp [hl, hn], p.sublist.nodup rep.nodup, fun a ha => rep.live a (mem a ha), slo A0 t ha, fun j ds hj => by
        obtain ⟨b, h1, h2, h3, _⟩ := sto j ds hj
        exact ⟨b, h1, h2, h3⟩, rep.tabs.sub mem⟩
    cases s with
    | val d => exact fin (.val d) st' v F A0 H k l (pfx_refl A0) (base _ a)
    | kn ds => exact fin (.kn ds) st' v F A0 H k l (pfx_refl A0) (base _ a)
    | exc d => exact k.elim
    | obj j =>
      replace k : (if j < n then False else match e.st[j]? with | some (some ob) => if mob ob = true then False else Kp (.obj n) (st' ++ [ob]) | _ => False) := k
      split at k
      · exact k.elim
      · rename_i hj
        split at k
        · rename_i ob hd
          split at k
          · exact k.elim
          rename_i hmo
          have hmo' : mob ob = false := by simpa using hmo
          obtain ⟨b, e1, e2⟩ := a
          obtain ⟨b', h1, h2, h3⟩ := rep.store j ob hd
          rw [e1] at h1
          cases h1
          have hb : b ∉ A0 := fun hm => by
            obtain ⟨i, hi, ei⟩ := List.getElem_of_mem hm
            have e3 : A[i]? = some b := by
              rw [← hA0 (by omega)]
              rw [List.getElem?_eq_getElem hi, ei]
            have := nodup_at rep.nodup e3 e1
            omega
          have hbA : b ∈ A := List.mem_of_getElem? e1
          refine fin (.obj n) (st' ++ [ob]) v F (A0 ++ [b]) H k l ⟨[b], rfl⟩ ⟨rep.sub, rep.keep, fun a o z => ⟨(rep.apart a o z).1, fun hm => ?_⟩, rfl, by simp [hl, hn], ?_, fun a ha => ?_, slo (A0 ++ [b]) (.obj n) ⟨b, ?_, e2⟩, fun i cs z => ?_, rep.tabs.sub fun a ha => by
            rcases List.mem_append.mp ha with z | z
            · exact mem a z
            · exact List.mem_singleton.mp z ▸ hbA⟩
          · rcases List.mem_append.mp hm with hm | hm
            · exact (rep.apart a o z).2 (mem a hm)
            · rw [List.mem_singleton.mp hm] at z
              exact (rep.apart b o z).2 hbA
          · rw [List.nodup_append]
            exact ⟨p.sublist.nodup rep.nodup, by simp, fun a ha c hc q => hb (by rw [List.mem_singleton.mp hc] at q; exact q ▸ ha)⟩
          · rcases List.mem_append.mp ha with hm | hm
            · exact rep.live a (mem a hm)
            · rw [List.mem_singleton.mp hm]
              exact rep.live b hbA
          · rw [List.getElem?_append_right (by omega), hn, Nat.sub_self] <;> rfl
          · have z' : ((st' ++ [ob]).map some)[i]? = some (some cs) := z
            rw [List.map_append] at z'
            by_cases hi : i < st'.length
            · rw [List.getElem?_append_left (by rw [List.length_map]; exact hi)] at z'
              obtain ⟨c, q1, q2, q3, q4⟩ := sto i cs z'
              exact ⟨c, by rw [List.getElem?_append_left (by omega)]; exact q1, q2, q3.noM q4⟩
            · rw [List.getElem?_append_right (by rw [List.length_map]; omega), List.length_map] at z'
              have hi0 : i - st'.length = 0 := by
                rcases Nat.eq_zero_or_pos (i - st'.length) with q | q
                · exact q
                · rw [List.getElem?_eq_none (by simp; omega)] at z'
                  cases z'
              rw [hi0] at z'
              simp at z'
              subst z'
              refine ⟨b, ?_, h2, h3.noM hmo'⟩
              rw [List.getElem?_append_right (by omega), show i - A0.length = 0 from by omega] <;> rfl
        · exact k.elim
end
/-- the names at a def's entry -/
def startV (n : Nat) (ss : List Sl) : List (Option Sl) := ss.map some ++ List.replicate (n - ss.length) none
section
variable {P : Program} {w : World} {K : PySem.W.Frag} {mg : Str → Option Value} {base : Heap}
theorem okV {x qual : Str} {st : Stmt} {f : Addr} {fd : FuncData} {N ps : List Str} {k : Nat} {p : VSp} (F : Fun K x qual st f fd) (S : FnScope N ps (defScope st)) (len : ∀ ss st Kp, p ss st Kp → ss.length = ps.length)
    (hbody : ∀ (cdv : Value) (A : Around) (outer : List Env) (s : Shared) (H : Hp) (E : XK), Room k (A.deeper (envOfC qual (defScope st) s.heap.objs.size f cdv)) →
      ∃ t, VSs (cxOf CX0 P w K mg base N qual (defScope st) f cdv A outer s H E).nox (defBody st) t ∧
        ∀ ss cs Kp, p ss cs Kp → t { nx := fun e => ret cs.length (.val .none) e Kp, rt := fun s e => ret cs.length s e Kp } ⟨startV N.length ss, cs.map some⟩) : FnOk P w K mg base CX0 (k + 1) f fd ps (spV K p) := by
  have lenV : ∀ vs H Q E, spV K p vs H Q E → vs.length = ps.length := fun vs H Q E h => by
    obtain ⟨R, F, A, ss, st, Kp, rep, hp, _⟩ := h
    have := rep.len
    simp at this
    rw [← this]
    exact len _ _ _ hp
  refine F.ok S lenV fun cdv A outer s H vs Q E hr h => ?_
  obtain ⟨t, ht, hb⟩ := hbody cdv A outer s H E hr
  obtain ⟨R, F0, A0, ss, cs, Kp, rep, hp, fin⟩ := h
  have hl := rep.len
  simp at hl
  refine ⟨_, ht, R, F0, A0, ⟨startV N.length ss, cs.map some⟩, { nx := fun e => ret cs.length (.val .none) e Kp, rt := fun s e => ret cs.length s e Kp }, ?_, hb ss cs Kp hp, ?_⟩
  · refine rep.weak ?_ fun i u hu => ?_
    · show (ss.map some ++ List.replicate (N.length - ss.length) none).length = (vs.map some ++ List.replicate (N.length - vs.length) none).length
      simp only [List.length_append, List.length_map, List.length_replicate, hl]
    · replace hu : (ss.map some ++ List.replicate (N.length - ss.length) none)[i]? = some (some u) := hu
      rcases Nat.lt_or_ge i (ss.map some).length with hi | hi
      · rw [List.getElem?_append_left hi] at hu
        obtain ⟨v, h1, h2⟩ := rep.slot i u hu
        refine ⟨v, ?_, h2⟩
        show (vs.map some ++ List.replicate (N.length - vs.length) none)[i]? = _
        rw [List.getElem?_append_left (by rw [List.length_map] at hi ⊢; omega)]
        exact h1
      · rw [List.getElem?_append_right hi] at hu
        have := List.mem_of_getElem? hu
        have := (List.mem_replicate.mp this).2
        cases this
  · have hn : A0.length = cs.length := by
      have := rep.lenA
      simp at this
      exact this.symm
    exact ⟨fun e' σ' F' A' H' k l p r => ret_ok r (s := .val .none) (v := .non) .non hn l p k fin, fun _ _ _ _ _ k => k.elim, fun _ _ _ _ _ k => k.elim, fun s e' v σ' F' A' H' k l p r a => ret_ok r a hn l p k fin, FinX.no⟩
end
def objs : List Sl → List Nat
  | [] => []
  | .obj j :: r => j :: objs r
  | .val _ :: r => objs r
  | .kn _ :: r => objs r
  | .exc _ :: r => objs r
def renum : Nat → List Sl → List Sl
  | _, [] => []
  | k, .obj _ :: r => .obj k :: renum (k + 1) r
  | k, .val d :: r => .val d :: renum k r
  | k, .kn ds :: r => .kn ds :: renum k r
  | k, .exc a :: r => .exc a :: renum k r
def uniq : List Nat → Bool
  | [] => true
  | j :: r => r.all (fun i => !(i == j)) && uniq r
def getS : List Nat → List (Option Ob) → Option (List Ob)
  | [], _ => some []
  | j :: r, st => match st[j]? with
    | some (some ob) => if mob ob = true then none else (getS r st).map (ob :: ·)
    | _ => none
def putS : List Nat → List Ob → List (Option Ob) → List (Option Ob)
  | j :: r, c :: cs, st => (putS r cs st).set j (some c)
  | _, _, st => st
/-- a call: what the callee may change are the lists of the store that are handed in -/
def opCallK (own : Ob → En → KE → Prop) (p : VSp) (ss : List Sl) (e : En) (Kp : KE) : Prop := match uniq (objs ss), getS (objs ss) e.st with
  | true, some cs => p (renum 0 ss) cs fun s cs' => if cs'.any mob = true then False else match s with
    | .val d => Kp (.val d) ⟨e.sl, putS (objs ss) cs' e.st⟩
    | .kn ds => Kp (.kn ds) ⟨e.sl, putS (objs ss) cs' e.st⟩
    | .exc _ => False
    | .obj j => if j < (objs ss).length then False else match cs'[j]? with
      | some ob => own ob ⟨e.sl, putS (objs ss) cs' e.st⟩ Kp
      | none => False
  | _, _ => False
theorem uniq_nodup : ∀ {js : List Nat}, uniq js = true → js.Nodup
  | [], _ => List.nodup_nil
  | j :: r, h => by
    have h' : (r.all (fun i => !(i == j)) && uniq r) = true := h
    rw [Bool.and_eq_true, List.all_eq_true] at h'
    rw [List.nodup_cons]
    refine ⟨fun hm => ?_, uniq_nodup h'.2⟩
    have := h'.1 j hm
    simp at this
theorem getS_at : ∀ {js : List Nat} {st : List (Option Ob)} {cs : List Ob}, getS js st = some cs → cs.length = js.length ∧ ∀ (k : Nat) (j : Nat), js[k]? = some j → ∃ ds, cs[k]? = some ds ∧ st[j]? = some (some ds) ∧ mob ds = false
  | [], _, _, h => by
    cases h
    exact ⟨rfl, fun k j hj => by simp at hj⟩
  | j :: r, st, cs, h => by
    unfold getS at h
    split at h
    · rename_i ds hd
      split at h
      · cases h
      rename_i hmo
      obtain ⟨c, hc, rfl⟩ := Option.map_eq_some_iff.mp h
      obtain ⟨h1, h2⟩ := getS_at hc
      refine ⟨by simp [h1], fun k i hi => ?_⟩
      cases k with
      | zero =>
        simp at hi
        subst hi
        exact ⟨ds, rfl, hd, by simpa using hmo⟩
      | succ k => exact h2 k i (by simpa using hi)
    · cases h
theorem putS_len : ∀ (js : List Nat) (cs : List Ob) (st : List (Option Ob)), (putS js cs st).length = st.length
  | [], _, _ => by simp [putS]
  | _ :: _, [], _ => by simp [putS]
  | j :: r, c :: cs, st => by
    show ((putS r cs st).set j (some c)).length = _
    rw [List.length_set, putS_len r cs st]
theorem putS_at : ∀ {js : List Nat} {cs : List Ob} {st : List (Option Ob)} {i : Nat} {o : Option Ob}, (putS js cs st)[i]? = some o → js.Nodup → (∃ (k : Nat) (c : Ob), js[k]? = some i ∧ cs[k]? = some c ∧ o = some c) ∨ ((∀ k : Nat, js[k]? = some i → cs[k]? = none) ∧ st[i]? = some o)
  | [], _, _, _, _, h, _ => .inr ⟨fun k hk => by simp at hk, by simpa [putS] using h⟩
  | _ :: _, [], _, _, _, h, _ => .inr ⟨fun k _ => by simp, by simpa [putS] using h⟩
  | j :: r, c :: cs, st, i, o, h, nd => by
    have h' : ((putS r cs st).set j (some c))[i]? = some o := h
    obtain ⟨n1, n2⟩ := List.nodup_cons.mp nd
    by_cases q : j = i
    · subst q
      have hl : j < (putS r cs st).length := by
        have := (List.getElem?_eq_some_iff.mp h').1
        simpa using this
      rw [List.getElem?_set_self hl] at h'
      cases h'
      exact .inl ⟨0, c, rfl, rfl, rfl⟩
    · rw [List.getElem?_set_ne q] at h'
      rcases putS_at h' n2 with ⟨k, c', h1, h2, h3⟩ | ⟨h1, h2⟩
      · exact .inl ⟨k + 1, c', by simpa using h1, by simpa using h2, h3⟩
      · refine .inr ⟨fun k hk => ?_, h2⟩
        cases k with
        | zero =>
          simp at hk
          exact absurd hk q
        | succ k =>
          have := h1 k (by simpa using hk)
          simpa using this
theorem renum_at {K : PySem.W.Frag} {F : Hp} {A Ap : List Addr} : ∀ {ss : List Sl} {vs : List V} {k : Nat}, SlAts K F A vs ss → (∀ m j, (objs ss)[m]? = some j → ∀ a, A[j]? = some a → Ap[k + m]? = some a) → SlAts K F Ap vs (renum k ss)
  | [], _, _, h, _ => by
    cases h
    exact .nil
  | .val d :: r, _, k, h, g => by
    cases h with
    | cons h1 h2 => exact .cons (s := .val d) h1 (renum_at h2 g)
  | .kn d :: r, _, k, h, g => by
    cases h with
    | cons h1 h2 => exact .cons (s := .kn d) h1 (renum_at h2 g)
  | .exc d :: r, _, k, h, g => by
    cases h with
    | cons h1 h2 => exact .cons (s := .exc d) h1 (renum_at h2 g)
  | .obj j :: r, _, k, h, g => by
    cases h with
    | cons h1 h2 =>
      obtain ⟨a, e1, e2⟩ := h1
      refine .cons (s := .obj k) ⟨a, g 0 j rfl a e1, e2⟩ (renum_at h2 fun m i hm b hb => ?_)
      have := g (m + 1) i (by simpa [objs] using hm) b hb
      rw [show k + 1 + m = k + (m + 1) from by omega]
      exact this
theorem slAts_get {K : PySem.W.Frag} {F : Hp} {A : List Addr} {vs : List V} {ss : List Sl} (h : SlAts K F A vs ss) : ∀ {i : Nat} {s : Sl}, ss[i]? = some s → ∃ v, vs[i]? = some v ∧ SlAt K F A v s := by
  induction h with
  | nil =>
    intro i s hs
    simp at hs
  | cons h1 h2 ih =>
    intro i s hs
    cases i with
    | zero =>
      simp at hs
      subst hs
      exact ⟨_, rfl, h1⟩
    | succ i => exact ih (by simpa using hs)
/-- how a new list of the callee's is taken -/
def ownO (ob : Ob) (e : En) (Kp : KE) : Prop := Kp (.obj e.st.length) ⟨e.sl, e.st ++ [some ob]⟩
def ownD (ob : Ob) (e : En) (Kp : KE) : Prop := match ob with
  | .l ds => Kp (.val (.list ds)) e
  | _ => False
def FinW (K : PySem.W.Frag) (own : Ob → En → KE → Prop) : Prop := ∀ {R F : Hp} {A : List Addr} {σ : L2.St} {H : Hp} {e : En} {b : Addr} {o : HO} {ob : Ob} {Kp : KE} {Q : VK}, Rep K R F A σ H e → F b = none → R b = none → b ∉ A → H b = some o → ObAt K F A (some o) ob → mob ob = false → own ob e Kp → Fin K R F A σ Kp Q → Q (.ref b) H
theorem ObAt.noTbl {K : PySem.W.Frag} {F : Hp} {A : List Addr} {o : HO} {ob : Ob} (h : ObAt K F A (Option.some o) ob) (ps : Array Value) : o ≠ .tbl ps := fun e => by
  subst e
  cases ob <;> first | (obtain ⟨xs, h, _⟩ := h; cases h) | (obtain ⟨h, _⟩ := h; cases h)
theorem Rep.adopt {K : PySem.W.Frag} {R F : Hp} {A : List Addr} {σ : L2.St} {H : Hp} {e : En} (r : Rep K R F A σ H e) {b : Addr} {o : HO} (hF : F b = none) (hR : R b = none) (hA : b ∉ A) (hH : H b = some o) (no : ∀ ps, o ≠ .tbl ps) : Rep K (upd R b o) F A σ H e :=
  ⟨r.sub, fun c u z => by
    by_cases q : c = b
    · subst q
      rw [upd_same] at z
      cases z
      exact hH
    · rw [upd_ne q] at z
      exact r.keep _ _ z, fun c u z => by
    by_cases q : c = b
    · subst q
      exact ⟨hF, hA⟩
    · rw [upd_ne q] at z
      exact r.apart c u z, r.len, r.lenA, r.nodup, r.live, r.slot, r.store, r.tabs.adopt hH no⟩
theorem finW_O {K : PySem.W.Frag} : FinW K ownO := by
  intro R F A σ H e b o ob Kp Q rep hF hR hA hH hx hm k fin
  obtain ⟨r2, l⟩ := (rep.adopt hF hR hA hH hx.noTbl).giveOb hR (hx.noM hm)
  refine fin (.obj e.st.length) _ (.ref b) F _ H k (Le.refl F) l r2 ⟨b, ?_, rfl⟩
  rw [rep.lenA, List.getElem?_append_right (Nat.le_refl _), Nat.sub_self] <;> rfl
theorem finW_D {K : PySem.W.Frag} : FinW K ownD := by
  intro R F A σ H e b o ob Kp Q rep hF hR hA hH hx hm k fin
  cases ob with
  | l ds =>
    obtain ⟨xs, ex, hxs⟩ := hx
    cases ex
    exact finD_ok (rep.adopt hF hR hA hH fun _ z => by cases z) hR hxs k fin
  | m _ => exact False.elim k
  | mo _ => exact False.elim k
  | lk _ _ _ => exact False.elim k
open Classical in
theorem p_call {K : PySem.W.Frag} {p : VSp} {own : Ob → En → KE → Prop} (hw : FinW K own) {E : XK} : PrimN K (fun vs H Q => spV K p (vs ++ []) H Q E) (opCallK own p) := by
  intro R F A σ H e vs ss Kp Q rep ats ho fin
  rw [List.append_nil]
  unfold opCallK at ho
  split at ho
  · rename_i cs hu hg
    have nd := uniq_nodup hu
    obtain ⟨gl, ga⟩ := getS_at hg
    -- the addresses of what is handed in
    have hA : ∀ (k j : Nat), (objs ss)[k]? = some j → ∃ a ds, A[j]? = some a ∧ cs[k]? = some ds ∧ F a = none ∧ ObAt K F A (H a) ds ∧ mob ds = false := fun k j hj => by
      obtain ⟨ds, h1, h2, hm⟩ := ga k j hj
      obtain ⟨a, q1, q2, q3⟩ := rep.store j ds h2
      exact ⟨a, ds, q1, h1, q2, q3, hm⟩
    let Ap : List Addr := (objs ss).map fun j => (A[j]?).getD 0
    have hAp : ∀ (k j : Nat) (a : Addr), (objs ss)[k]? = some j → A[j]? = some a → Ap[k]? = some a := fun k j a h1 h2 => by
      show ((objs ss).map fun j => (A[j]?).getD 0)[k]? = _
      rw [List.getElem?_map, h1]
      simp [h2]
    have hAp' : ∀ (k : Nat) (a : Addr), Ap[k]? = some a → ∃ j, (objs ss)[k]? = some j ∧ A[j]? = some a := fun k a h => by
      have h' : ((objs ss).map fun j => (A[j]?).getD 0)[k]? = some a := h
      rw [List.getElem?_map] at h'
      obtain ⟨j, h1, h2⟩ := Option.map_eq_some_iff.mp h'
      obtain ⟨b, _, q1, _⟩ := hA k j h1
      rw [q1] at h2
      simp at h2
      exact ⟨j, h1, by rw [q1, h2]⟩
    have hApl : Ap.length = (objs ss).length := List.length_map _
    have hsub : ∀ a ∈ Ap, a ∈ A := fun a ha => by
      obtain ⟨k, hk⟩ := List.getElem?_of_mem ha
      obtain ⟨j, _, h2⟩ := hAp' k a hk
      exact List.mem_of_getElem? h2
    have hApn : Ap.Nodup := by
      show ((objs ss).map fun j => (A[j]?).getD 0).Nodup
      refine List.pairwise_map.mpr (List.Pairwise.imp_of_mem (fun {i j} hi hj hne q => ?_) nd)
      obtain ⟨ki, hki⟩ := List.getElem?_of_mem hi
      obtain ⟨kj, hkj⟩ := List.getElem?_of_mem hj
      obtain ⟨a, _, q1, _⟩ := hA ki i hki
      obtain ⟨b, _, q2, _⟩ := hA kj j hkj
      rw [q1, q2] at q
      have q' : a = b := q
      subst q'
      exact hne (nodup_at rep.nodup q1 q2)
    let Rc : Hp := fun a => if (F a).isSome = true ∨ a ∈ Ap ∨ TbK K a then none else H a
    have hRc : ∀ {a : Addr} {o : HO}, Rc a = some o → F a = none ∧ a ∉ Ap ∧ H a = some o := fun {a o} h => by
      have h' : (if (F a).isSome = true ∨ a ∈ Ap ∨ TbK K a then none else H a) = some o := h
      split at h'
      · cases h'
      · rename_i q
        refine ⟨?_, fun z => q (.inr (.inl z)), h'⟩
        cases hf : F a with
        | none => rfl
        | some u => exact absurd (.inl (by simp [hf])) q
    have hRc' : ∀ {a : Addr} {o : HO}, F a = none → a ∉ Ap → ¬ TbK K a → H a = some o → Rc a = some o := fun {a o} h1 h2 h4 h3 => by
      show (if (F a).isSome = true ∨ a ∈ Ap ∨ TbK K a then none else H a) = some o
      rw [if_neg]
      · exact h3
      · rintro (z | z | z)
        · rw [h1] at z
          cases z
        · exact h2 z
        · exact h4 z
    have noA : ∀ {a : Addr}, a ∈ A → ¬ TbK K a := fun {a} ha z => (rep.tabs.of a z).2.2.2 ha
    have noR : ∀ {a : Addr} {o : HO}, R a = some o → ¬ TbK K a := fun {a o} h z => by
      rw [(rep.tabs.of a z).2.2.1] at h
      cases h
    have tabc : Tbs K Rc F H Ap := ⟨fun P hP => by
      obtain ⟨h1, h2, h3, h4⟩ := rep.tabs.of P hP
      refine ⟨h1, h2, ?_, fun z => h4 (hsub P z)⟩
      show (if (F P).isSome = true ∨ P ∈ Ap ∨ TbK K P then none else H P) = none
      rw [if_pos (.inr (.inr hP))]⟩
    have ren := renum_at (Ap := Ap) (k := 0) ats (fun m j hm a ha => by rw [Nat.zero_add]; exact hAp m j a hm ha)
    have repc : Rep K Rc F Ap (vs.map some) H ⟨(renum 0 ss).map some, cs.map some⟩ := by
      refine ⟨rep.sub, fun a o z => (hRc z).2.2, fun a o z => ⟨(hRc z).1, (hRc z).2.1⟩, ?_, ?_, hApn, fun a ha => rep.live a (hsub a ha), fun i s z => ?_, fun j ds z => ?_, tabc⟩
      · simp [ren.len]
      · simp [gl, hApl]
      · have z' : ((renum 0 ss).map some)[i]? = some (some s) := z
        rw [List.getElem?_map] at z'
        obtain ⟨t, ht, hs⟩ := Option.map_eq_some_iff.mp z'
        cases hs
        obtain ⟨v, h1, h2⟩ := slAts_get ren ht
        exact ⟨v, by rw [List.getElem?_map, h1] <;> rfl, h2⟩
      · have z' : (cs.map some)[j]? = some (some ds) := z
        rw [List.getElem?_map] at z'
        obtain ⟨t, ht, hs⟩ := Option.map_eq_some_iff.mp z'
        cases hs
        have hj : j < (objs ss).length := by
          have := (List.getElem?_eq_some_iff.mp ht).1
          omega
        obtain ⟨i, hi⟩ : ∃ i, (objs ss)[j]? = some i := ⟨(objs ss)[j], by simp [hj]⟩
        obtain ⟨a, ds', q1, q2, q3, q4, q5⟩ := hA j i hi
        rw [ht] at q2
        cases q2
        exact ⟨a, hAp j i a hi q1, q3, q4.noM q5⟩
    refine ⟨Rc, F, Ap, renum 0 ss, cs, _, repc, ho, fun s cs' v F' A' H' k l p rep' => ?_⟩
    split at k
    · exact k.elim
    rename_i hall
    have mobs : ∀ (i : Nat) (ob : Ob), cs'[i]? = some ob → mob ob = false := fun i ob h => by
      cases q : mob ob with
      | false => rfl
      | true => exact absurd (List.any_eq_true.mpr ⟨ob, List.mem_of_getElem? h, q⟩) hall
    have hR : ∀ {a : Addr} {o : HO}, R a = some o → Rc a = some o := fun {a o} z => hRc' (rep.apart a o z).1 (fun hm => (rep.apart a o z).2 (hsub a hm)) (noR z) (rep.keep a o z)
    have hA' : ∀ {k : Nat}, k < Ap.length → A'[k]? = Ap[k]? := fun {k} hk => by
      obtain ⟨t, rfl⟩ := p
      rw [List.getElem?_append_left hk]
    have hApA' : ∀ a ∈ Ap, a ∈ A' := fun a ha => p.subset ha
    have lc : cs'.length = A'.length := by
      have := rep'.lenA
      simpa using this
    -- the caller's state behind the call
    have back : Rep K R F' A σ H' ⟨e.sl, putS (objs ss) cs' e.st⟩ := by
      refine ⟨rep'.sub, fun a o z => rep'.keep a o (hR z), fun a o z => ⟨(rep'.apart a o (hR z)).1, (rep.apart a o z).2⟩, rep.len, by rw [putS_len]; exact rep.lenA, rep.nodup, fun a ha => ?_, fun i t z => ?_, fun j ds z => ?_, ⟨fun P hP => ⟨(rep'.tabs.of P hP).1, (rep'.tabs.of P hP).2.1, (rep.tabs.of P hP).2.2⟩⟩⟩
      · obtain ⟨o, ho⟩ := rep.live a ha
        cases hf : F a with
        | some u => exact ⟨u, rep'.sub _ _ (l _ _ hf)⟩
        | none =>
          by_cases hm : a ∈ Ap
          · exact rep'.live a (hApA' a hm)
          · exact ⟨o, rep'.keep _ _ (hRc' hf hm (noA ha) ho)⟩
      · obtain ⟨u, h1, h2⟩ := rep.slot i t z
        exact ⟨u, h1, h2.le l (pfx_refl A)⟩
      · rcases putS_at z nd with ⟨m, c, h1, h2, h3⟩ | ⟨h1, h2⟩
        · cases h3
          obtain ⟨a, ds', q1, q2, q3, q4, q5⟩ := hA m j h1
          obtain ⟨b, r1, r2, r3⟩ := rep'.store m ds (by rw [List.getElem?_map, h2] <;> rfl)
          have hm : m < Ap.length := by
            rw [hApl]
            exact (List.getElem?_eq_some_iff.mp h1).1
          rw [hA' hm, hAp m j a h1 q1] at r1
          cases r1
          exact ⟨a, q1, r2, r3.noM (mobs m ds h2)⟩
        · obtain ⟨a, q1, q2, q3⟩ := rep.store j ds h2
          have na : a ∉ Ap := fun hm => by
            obtain ⟨m, hm⟩ := List.getElem?_of_mem hm
            obtain ⟨j', r1, r2⟩ := hAp' m a hm
            have := nodup_at rep.nodup r2 q1
            subst this
            have hml : m < Ap.length := (List.getElem?_eq_some_iff.mp hm).1
            have := h1 m r1
            have h5 : Ap.length ≤ A'.length := p.length_le
            rw [List.getElem?_eq_none_iff] at this
            omega
          obtain ⟨o, ho⟩ := q3.some
          have zc := hRc' q2 na (noA (List.mem_of_getElem? q1)) ho
          exact ⟨a, q1, (rep'.apart a _ zc).1, q3.le l (pfx_refl A) fun u e => by
            rw [ho] at e
            cases e
            exact rep'.keep _ _ zc⟩
    have fin' := fin.tr l (pfx_refl A)
    obtain ⟨v', hv', av⟩ := rep'.slot 0 s rfl
    have ev : some v = some v' := by simpa using hv'
    cases ev
    cases s with
    | val d => exact fin'.done back (s := .val d) k av
    | kn ds => exact fin'.done back (s := .kn ds) k av
    | exc d => exact k.elim
    | obj j =>
      replace k : (if j < (objs ss).length then False else match cs'[j]? with | some ds => own ds ⟨e.sl, putS (objs ss) cs' e.st⟩ Kp | none => False) := k
      split at k
      · exact k.elim
      · rename_i hj
        split at k
        · rename_i ds hd
          obtain ⟨b, e1, rfl⟩ := av
          obtain ⟨b', r1, r2, r3⟩ := rep'.store j ds (by rw [List.getElem?_map, hd] <;> rfl)
          rw [e1] at r1
          cases r1
          obtain ⟨o, ho⟩ := r3.some
          have nb : b ∉ Ap := fun hm => by
            obtain ⟨m, hm⟩ := List.getElem?_of_mem hm
            have hml : m < Ap.length := (List.getElem?_eq_some_iff.mp hm).1
            rw [← hA' hml] at hm
            have := nodup_at rep'.nodup hm e1
            omega
          have hbF : F b = none := by
            cases hf : F b with
            | none => rfl
            | some u =>
              rw [l _ _ hf] at r2
              cases r2
          have hH : H b = none := by
            cases hh : H b with
            | none => rfl
            | some u => exact absurd (List.mem_of_getElem? e1) (rep'.apart b u (hRc' hbF nb (fun z => (rep'.tabs.of b z).2.2.2 (List.mem_of_getElem? e1)) hh)).2
          exact hw back r2 (rep.keep.free hH) (fun hm => by
            obtain ⟨u, hu⟩ := rep.live b hm
            rw [hH] at hu
            cases hu) ho (by rw [← ho]; exact r3.noM (mobs j ds hd)) (mobs j ds hd) k fin'
        · exact k.elim
  · exact ho.elim
section
variable {X : Cx} {f : Addr} {fd : FuncData} {ps : List Str} {k : Nat} {p : VSp} {x : Str} {pp pos : Pos} {ex : Expr} {es : List Expr} {t : VTA}
theorem ve_callK {own : Ob → En → KE → Prop} (hw : FinW X.K own) (G : FnOk X.prog X.w X.K X.mg X.base CX0 k f fd ps (spV X.K p)) (hr : Room k X.A) (hg : Gl X x) (hm : X.mg x = some (.ref f)) (hk : PySem.W.keepIn X.K (.ref f) = true) (hb : Binds X.K fd ps [])
    (ha : VA X (ex :: es) t) (hdb : (x == ("__debug__" : Str)) = false := by decide) (he : starEach (ex :: es) X.env = (false, eval ex X.env) :: starEach es X.env := by rfl) (hpl : (backTo pos (starEach es X.env)).any (·.1) = false := by rfl) :
    VE X (.Call (.Name x pp) (ex :: es) [] pos) (vN (opCallK own p) t) := PE.imp (pe_call G hr hg hm hk hb .nil pass0 ha hdb he hpl) (liftN (p_call hw))
end
end Vl
namespace Vl
open PySem L2 PySem.Spec PyProof.Rows
def truOk : D → Prop
  | .str x => x.length ≤ sizeLine
  | .dict _ => False
  | _ => True
def truB : D → Bool
  | .none => false
  | .bool b => b
  | .int i => i != 0
  | .str s => (s.length : Int) != 0
  | .list ds => !ds.isEmpty
  | .tuple ds => !ds.isEmpty
  | .dict _ => false
def opNotG (s : Sl) (e : En) (Kp : KE) : Prop := match pk s e with
  | some d => truOk d ∧ Kp (.val (.bool (!truB d))) e
  | none => False
section
variable {X : Cx} {a b c : Expr} {ta tb tc : VTE} {pos : Pos}
theorem vt_lt (ha : VE X a ta) (hb : VE X b tb) (hm : behindInMarks .Lt b = false := by exact nomark _) : VT X (.Compare a [.Lt] [b] pos) (vTest (v2 opLt ta tb)) := vt_cmp p_lt (op_lt.or op_lt_str) ha hb hm
theorem vt_gt (ha : VE X a ta) (hb : VE X b tb) (hm : behindInMarks .Gt b = false := by exact nomark _) : VT X (.Compare a [.Gt] [b] pos) (vTest (v2 opGt ta tb)) := vt_cmp (p_i0 (g := gGt) fun _ _ _ => .bl _) op_gt ha hb hm
def flatD : D → Bool
  | .none => true
  | .bool _ => true
  | .int _ => true
  | .str _ => true
  | _ => false
def opRev (s : Sl) (e : En) (Kp : KE) : Prop := match pk s e with
  | some (.list ds) => Kp (.val (.list ds.reverse)) e
  | _ => False
theorem AtL.rev {K : PySem.W.Frag} {F : Hp} {ds : List D} {vs : List V} (h : AtL K F ds vs) : AtL K F ds.reverse vs.reverse := by
  induction ds generalizing vs with
  | nil =>
    cases h
    exact .nil
  | cons d ds ih =>
    cases h with
    | cons h1 h2 =>
      rw [List.reverse_cons, List.reverse_cons]
      exact (ih h2).app (AtL.one h1)
theorem ve_rev {k : Nat} {p1 p2 p3 : Pos} (ha : VE X a ta) : VE X (.Subscript a (.Slice none none (some (.UnaryOp .USub (.Constant (.int 1) k p1) p2)) p3) pos) (v1 opRev ta) := PE.imp (pe_revL ha) (lift1 fun {R F A σ H e x s Kp Q} rep a1 ho fin => by
  unfold opRev at ho
  split at ho
  · rename_i ds h1
    obtain ⟨q, xs, rfl, q1, q2⟩ := rep.pk a1 h1
    exact ⟨q, xs, rfl, q1, fun p hp => fin.newL rep hp ho q2.rev⟩
  · exact ho.elim)
def reps (k : Nat) (ds : List D) : List D := (List.replicate k ds).flatten
theorem AtL.reps {K : PySem.W.Frag} {F : Hp} {ds : List D} {vs : List V} (h : AtL K F ds vs) : ∀ k : Nat, AtL K F (Vl.reps k ds) (List.replicate k vs).flatten
  | 0 => .nil
  | k + 1 => by
    show AtL K F (List.replicate (k + 1) ds).flatten _
    rw [List.replicate_succ, List.replicate_succ, List.flatten_cons, List.flatten_cons]
    exact h.app (AtL.reps h k)
def opMul2 (s1 s2 : Sl) (e : En) (Kp : KE) : Prop := match pkm s1 e, pk s2 e with
  | some (.int i), some (.int j) => CMul i j ∧ Kp (.val (.int (i * j))) e
  | some (.list ds), some (.int k) => -(2 ^ 63) ≤ k ∧ k < 2 ^ 63 ∧ ds.length * k.toNat ≤ sizeLine ∧ Kp (.val (.list (reps k.toNat ds))) e
  | _, _ => False
theorem p_mul2 {K : PySem.W.Frag} : Prim2 K (fun x y H Q => rI CMul (fun i j => .int (i * j)) x y H Q ∨ rRep x y H Q) opMul2 := by
  intro R F A σ H e x y s1 s2 Kp Q rep a1 a2 ho fin
  unfold opMul2 at ho
  split at ho
  · rename_i i j h1 h2
    exact .inl ⟨i, j, (rep.pkm a1 h1).int, (rep.pk a2 h2).int, ho.1, fin.val rep ho.2 (.int _)⟩
  · rename_i ds k h1 h2
    obtain ⟨l, xs, rfl, q1, q2⟩ := rep.pkm a1 h1
    exact .inr ⟨l, k, xs, rfl, (rep.pk a2 h2).int, q1, ho.1, ho.2.1, by rw [q2.len]; exact ho.2.2.1, fun p hp => fin.newL rep hp ho.2.2.2 (q2.reps _)⟩
  · exact ho.elim
theorem ve_mul2 (ha : VE X a ta) (hb : VE X b tb) : VE X (.BinOp a .Mult b pos) (v2 opMul2 ta tb) := ve_op p_mul2 (op_mul.or op_rep) ha hb
def tyD : D → String
  | .none => "NoneType"
  | .bool _ => "bool"
  | .int _ => "int"
  | .str _ => "str"
  | .list _ => "list"
  | .tuple _ => "tuple"
  | .dict [] => "dict"
  | .dict (_ :: _) => "#rec"
theorem kit_rec {T : String} (h : T ≠ "#rec") : kitB "#rec" T = none := by
  unfold kitB
  rw [if_neg (by
    intro z
    have z' := eq_of_beq z
    exact h (Value.type.inj z').symm)]
  split
  · rw [show PySem.fastBuiltinMro "#rec" = none from by decide +kernel]
    rfl
  · rfl
theorem ty_at {K : PySem.W.Frag} {R F : Hp} {A : List Addr} {σ : L2.St} {H : Hp} {e : En} {x : V} {s : Sl} {d : D} (rep : Rep K R F A σ H e) (a : SlAt K F A x s) (h : pk s e = some d) (hr : tyD d ≠ "#rec") : TyX K H x (.type (tyD d)) := by
  have p := rep.pk a h
  cases d with
  | none =>
    rw [p.none]
    exact .base .non
  | bool b =>
    rw [p.bool]
    exact .base (.bl b)
  | int i =>
    rw [p.int]
    exact .base (.int i)
  | str z =>
    rw [p.str]
    exact .base (.str z)
  | list ds =>
    obtain ⟨q, xs, rfl, h1, h2⟩ := p
    rcases h1 with (h1 | ⟨o, h1⟩) | ⟨o, its, n, h1, h3, _⟩
    · exact .base (.lst h1)
    · exact .base (.frz h1)
    · exact .kList h1 h3
  | tuple ds =>
    obtain ⟨q, xs, rfl, h1, h2⟩ := p.tup
    rcases sqT_le rep.sub h1 with (h1 | ⟨o, h1⟩) | ⟨o, its, n, h1, h3, _⟩
    · exact .base (.tup h1)
    · exact .fTuple h1
    · exact .kTuple h1 h3
  | dict _ =>
    have p' : At K F (.dict _) x := p
    cases p' with
    | dct h1 => exact .base (.dK (rep.sub _ _ h1))
    | rcd h0 h1 h2 h3 h4 => exact absurd rfl hr
def vIsi (T : String) (ta : VTE) : VTE := fun e Kp => ta e fun s e1 => match pk s e1 with
  | some d => ∃ b, kitB (tyD d) T = some b ∧ Kp (.val (.bool b)) e1
  | none => False
theorem ve_isi {T : String} {x : Str} {p p2 : Pos} (hT : T ≠ "#rec" := by decide) (hg : Gl X "isinstance") (hm : X.mg "isinstance" = none) (hgT : Gl X x) (hmT : X.mg x = none) (hv : bootBuiltins x = some (.type T)) (ha : VE X a ta) (hn : x ≠ "__name__" := by decide) (hdb : (x == ("__debug__" : Str)) = false := by decide)
    (hs : starEach [a, .Name x p2] X.env = (false, eval a X.env) :: starEach [.Name x p2] X.env := by rfl) (hs2 : starEach [.Name x p2] X.env = (false, eval (.Name x p2) X.env) :: starEach [] X.env := by rfl) (hpl : (backTo pos (starEach [.Name x p2] X.env)).any (·.1) = false := by rfl) :
    VE X (.Call (.Name "isinstance" p) [a, .Name x p2] [] pos) (vIsi T ta) :=
  PE.imp (pe_callB call_isi hg hm (by decide +kernel) (pa_cons ha (pa_cons (pe_bltn (v := .ty T) (u := .type T) hgT hmT hv rfl hn hdb) pa_nil hs2) hs) (by decide) (by decide) hs hpl) fun σ H Q q => by
    obtain ⟨R, F, A, e, Kp, rep, ht, fin⟩ := q
    refine ⟨R, F, A, e, _, rep, ht, fun s1 e1 x F1 A1 H1 k1 f1 p1 rep1 at1 => ?_⟩
    split at k1
    · rename_i d hd
      obtain ⟨b, h1, h2⟩ := k1
      exact ⟨x, .ty T, .type (tyD d), .type T, b, rfl, .ty T, ty_at rep1 at1 hd (fun z => by rw [z, kit_rec hT] at h1; cases h1), kit_ty h1, (fin.tr f1 p1).val rep1 h2 (.bl b)⟩
    · exact k1.elim
def vAug (g : Int → Int → Int) (i : Nat) (t : VTE) : VTS := fun D e => match e.sl[i]? with
  | some (some (.val (.int k))) => t e fun s e1 => (match pk s e1 with
    | some (.int j) => D.nx ⟨e1.sl.set i (some (.val (.int (g k j)))), e1.st⟩
    | _ => False)
  | _ => False
def txts : List D → Option (List Str)
  | [] => some []
  | .str x :: ds => (txts ds).map (x :: ·)
  | _ => none
def opJoin (s : Sl) (ss : List Sl) (e : En) (Kp : KE) : Prop := match pk s e, ss with
  | some (.str z), [t] => (match pk t e with
    | some (.list ds) => ∃ ys, txts ds = some ys ∧ (ys.map (·.length)).sum + ys.length * z.length ≤ 16777216 ∧ Kp (.val (.str (Txt.join z ys))) e
    | _ => False)
  | _, _ => False
structure VFn (P : Program) (w : World) (K : PySem.W.Frag) (mg : Str → Option Value) (base : Heap) (k : Nat) (x : Str) (ps : List Str) (p : VSp) : Prop where
  ex : ∃ f fd, FnOk P w K mg base CX0 k f fd ps (spV K p) ∧ PySem.W.keepIn K (.ref f) = true ∧ Binds K fd ps [] ∧ mg x = some (.ref f)
theorem VFn.mono {P : Program} {w : World} {K : PySem.W.Frag} {mg : Str → Option Value} {base : Heap} {j k : Nat} {x : Str} {ps : List Str} {p : VSp} (h : VFn P w K mg base j x ps p) (l : j ≤ k) : VFn P w K mg base k x ps p := by
  obtain ⟨f, fd, a, b, c, d⟩ := h.ex
  exact ⟨f, fd, a.mono l, b, c, d⟩
theorem spV_imp {K : PySem.W.Frag} {p p' : VSp} (h : ∀ ss st Kp, p' ss st Kp → p ss st Kp) : ∀ vs H Q E, spV K p' vs H Q E → spV K p vs H Q E := fun vs H Q E ⟨R, F, A, ss, st, Kp, r, q, z⟩ => ⟨R, F, A, ss, st, Kp, r, h _ _ _ q, z⟩
/-- a weaker promise -/
theorem VFn.imp {P : Program} {w : World} {K : PySem.W.Frag} {mg : Str → Option Value} {base : Heap} {k : Nat} {x : Str} {ps : List Str} {p p' : VSp} (h : VFn P w K mg base k x ps p) (g : ∀ ss st Kp, p' ss st Kp → p ss st Kp) : VFn P w K mg base k x ps p' := by
  obtain ⟨f, fd, a, b, c, d⟩ := h.ex
  exact ⟨f, fd, a.imp (spV_imp g), b, c, d⟩
theorem ve_call {own : Ob → En → KE → Prop} {j k : Nat} {x : Str} {ps : List Str} {p : VSp} {pp : Pos} {es : List Expr} {t : VTA} (hw : FinW X.K own) (G : VFn X.prog X.w X.K X.mg X.base k x ps p) (hr : Room j X.A) (hk : k ≤ j) (hg : Gl X x)
    (ha : VA X (a :: es) t) (hdb : (x == ("__debug__" : Str)) = false := by decide) (he : starEach (a :: es) X.env = (false, eval a X.env) :: starEach es X.env := by rfl) (hpl : (backTo pos (starEach es X.env)).any (·.1) = false := by rfl) :
    VE X (.Call (.Name x pp) (a :: es) [] pos) (vN (opCallK own p) t) := by
  obtain ⟨f, fd, h1, h2, h3, h4⟩ := G.ex
  exact ve_callK hw h1 (hr.mono hk) hg h4 h2 h3 ha hdb he hpl
def vCall0 (own : Ob → En → KE → Prop) (p : VSp) : VTE := fun e Kp => opCallK own p [] e Kp
/-- what built-in names mean in the module -/
structure Blt (mg : Str → Option Value) : Prop where
  len : mg "len" = none
  max : mg "max" = none
  min : mg "min" = none
  range : mg "range" = none
  int : mg "int" = none
  str : mg "str" = none
  list : mg "list" = none
  tuple : mg "tuple" = none
  bool : mg "bool" = none
  sorted : mg "sorted" = none
  enumerate : mg "enumerate" = none
  zip : mg "zip" = none
  isinstance : mg "isinstance" = none
  all : mg "all" = none
  any : mg "any" = none
  sum : mg "sum" = none
  dict : mg "dict" = none
  set : mg "set" = none
  divmod : mg "divmod" = none
  reversed : mg "reversed" = none
  repr : mg "repr" = none
end
end Vl
namespace Vl
open PySem L2 PySem.Spec PyProof.Rows
/-- a module's constant -/
structure VConst (K : PySem.W.Frag) (mg : Str → Option Value) (x : Str) (d : D) : Prop where
  ex : ∃ v u, mg x = some u ∧ RelV v u ∧ ∀ F, At K F d v
theorem ve_const {X : Cx} {x : Str} {d : D} {pos : Pos} (h : VConst X.K X.mg x d) (hg : Gl X x) (hdb : (x == ("__debug__" : Str)) = false := by decide) : VE X (.Name x pos) (vC d) := by
  obtain ⟨v, u, h1, h2, h3⟩ := h.ex
  exact ve_glob hg h1 h2 h3 hdb
/-- a def whose promise asks what can't be -/
theorem vac {P : Program} {w : World} {K : PySem.W.Frag} {mg : Str → Option Value} {base : Heap} {x qual : Str} {st : Stmt} {f : Addr} {fd : FuncData} {N ps : List Str} {k : Nat} {p : VSp} (F : Fun K x qual st f fd) (S : FnScope N ps (defScope st)) (no : ∀ ss st Kp, ¬ p ss st Kp) :
    FnOk P w K mg base CX0 (k + 1) f fd ps (spV K p) := by
  refine F.ok S (fun vs H Q E h => ?_) fun cdv A outer s H vs Q E hr h => ?_
  · obtain ⟨R, F, A, ss, st, Kp, rep, hp, _⟩ := h
    exact absurd hp (no _ _ _)
  · obtain ⟨R, F, A, ss, st, Kp, rep, hp, _⟩ := h
    exact absurd hp (no _ _ _)
end Vl
namespace Vl
open PySem L2 PySem.Spec PyProof.Rows
def kOpt (o : Option D) (k : D → Prop) : Prop := match o with
  | some d => k d
  | none => False
theorem kOpt_some {d : D} {k : D → Prop} : kOpt (some d) k = k d := rfl
theorem kOpt_ex {o : Option D} {k : D → Prop} (h : kOpt o k) : ∃ d, o = some d ∧ k d := by
  cases o with
  | none => exact h.elim
  | some d => exact ⟨d, rfl, h⟩
def xIx (s1 s2 : Sl) (e : En) (Kp : KE) : Prop := match pk s1 e, pk s2 e with
  | some (.tuple ds), some (.int i) => kOpt (atI ds i) fun d => Kp (.val d) e
  | some (.list ds), some (.int i) => kOpt (atI ds i) fun d => Kp (.val d) e
  | some (.str z), some (.int i) => ∃ c, z.length ≤ sizeLine ∧ atI z.cps.toList i = some c ∧ Kp (.val (.str ⟨#[c]⟩)) e
  | _, _ => False
theorem p_xix {K : PySem.W.Frag} : Prim2 K (rIx K) xIx := by
  intro R F A σ H e x y s1 s2 Kp Q rep a1 a2 ho fin
  refine p_ix rep a1 a2 ?_ fin
  unfold xIx at ho
  unfold opIx
  split at ho
  · rename_i ds i h1 h2
    first | exact kOpt_ex ho | (rw [h1, h2]; exact kOpt_ex ho)
  · rename_i ds i h1 h2
    first | exact kOpt_ex ho | (rw [h1, h2]; exact kOpt_ex ho)
  · rename_i z i h1 h2
    first | exact ho | (rw [h1, h2]; exact ho)
  · exact ho.elim
def xPop (s : Sl) (ss : List Sl) (e : En) (Kp : KE) : Prop := match s with
  | .obj j => (match e.st[j]? with
    | some (some (.l ds)) => kOpt ds.getLast? fun d => Kp (.val d) ⟨e.sl, e.st.set j (some (.l ds.dropLast))⟩
    | _ => False)
  | _ => False
theorem p_xpop {K : PySem.W.Frag} : PrimM K "list" (fun x vs H Q => vs = [] → rPop x vs H Q) xPop := by
  intro R F A σ H e x s xs ss Kp Q rep a0 a1 ho fin hv
  refine p_pop rep a0 a1 ?_ fin hv
  unfold xPop at ho
  unfold opPop
  split at ho
  · rename_i j
    split at ho
    · rename_i ds hd
      first | exact kOpt_ex ho | (dsimp only; rw [hd]; exact kOpt_ex ho)
    · exact ho.elim
  · exact ho.elim
def kOpn (o : Option Nat) (k : Nat → Prop) : Prop := match o with
  | some d => k d
  | none => False
theorem kOpn_some {d : Nat} {k : Nat → Prop} : kOpn (some d) k = k d := rfl
theorem kOpn_ex {o : Option Nat} {k : Nat → Prop} (h : kOpn o k) : ∃ d, o = some d ∧ k d := by
  cases o with
  | none => exact h.elim
  | some d => exact ⟨d, rfl, h⟩
def xgSub (to ti : VTE) : VTG := fun s e Kp => to e fun so e1 => ti e1 fun si e2 => asD s e2 fun d e3 => match so with
  | .obj j => (match pk si e3 with
    | some (.int k) => (match e3.st[j]? with
      | some (some (.l ds)) => kOpn (ixN ds.length k) fun n => Kp ⟨e3.sl, e3.st.set j (some (.l (ds.set n d)))⟩
      | _ => False)
    | _ => False)
  | _ => False
theorem asD_imp {s : Sl} {e : En} {k k' : D → En → Prop} (f : ∀ d e, k d e → k' d e) (h : asD s e k) : asD s e k' := by
  cases s with
  | val d => exact f _ _ h
  | kn ds => exact h.elim
  | exc d => exact h.elim
  | obj j =>
    have h' : (match e.st[j]? with | some (some (.l ds)) => k (.list ds) (e.kill j ds) | _ => False) := h
    show (match e.st[j]? with | some (some (.l ds)) => k' (.list ds) (e.kill j ds) | _ => False)
    split at h'
    · exact f _ _ h'
    · exact h'.elim
section
variable {X : Cx} {a b o i : Expr} {ta tb to ti : VTE} {pos : Pos}
theorem ve_xix (ha : VE X a ta) (hb : VE X b tb) (hs : PlainIx b := by exact fun _ _ => rfl) : VE X (.Subscript a b pos) (v2 xIx ta tb) := ve_ixR p_xix ix_seq ha hb hs
theorem ve_xpop {apos cpos : Pos} (ho : VE X o to) (hbase : attributeBase o "pop" X.env (eval o X.env) = eval o X.env := by rfl) (hline : (apos.endLine == cpos.line) = true := by rfl) :
    VE X (.Call (.Attribute o "pop" apos) [] [] cpos) (vM0 "list" xPop to) := PE.imp (pe_bm0 PySem.F.plainAttrs_list PySem.F.slot_list_pop PySem.F.type_list_pop mt_pop ho hbase hline) fun σ H Q h => by
  obtain ⟨R, F, A, e, Kp, rep, ht, fin⟩ := h
  exact ⟨R, F, A, e, _, rep, ht, fun s1 e1 x F1 A1 H1 k1 f1 p1 rep1 at1 => ⟨isT_ty rep1 at1 k1.1, p_xpop rep1 at1 .nil k1.2 (fin.tr f1 p1) rfl⟩⟩
def MonoE (t : VTE) : Prop := ∀ e (k k' : KE), (∀ s e, k s e → k' s e) → t e k → t e k'
theorem vg_xsub (mo : MonoE to) (mi : MonoE ti) (ho : VE X o to) (hi : VE X i ti) (hp : ∀ {u w : TE}, PE X o u → PE X i w → PG X (.Subscript o i pos) (gSub u w rSetL)) : VG X (.Subscript o i pos) [] (xgSub to ti) := PG.imp (vg_sub ho hi hp) fun v σ H Q h => by
  obtain ⟨R, F, A, e, s, Kp, rep, a, k, fin⟩ := h
  refine ⟨R, F, A, e, s, Kp, rep, a, ?_, fin⟩
  refine mo _ _ _ (fun so e1 k1 => mi _ _ _ (fun si e2 k2 => asD_imp (fun d e3 k3 => ?_) k2) k1) k
  cases so with
  | val _ => exact False.elim k3
  | kn _ => exact False.elim k3
  | exc _ => exact False.elim k3
  | obj j =>
    replace k3 : (match pk si e3 with | some (.int k) => (match e3.st[j]? with | some (some (.l ds)) => kOpn (ixN ds.length k) fun n => Kp ⟨e3.sl, e3.st.set j (some (.l (ds.set n d)))⟩ | _ => False) | _ => False) := k3
    show (match pk si e3 with | some (.int k) => (match e3.st[j]? with | some (some (.l ds)) => ∃ n, ixN ds.length k = some n ∧ Kp ⟨e3.sl, e3.st.set j (some (.l (ds.set n d)))⟩ | _ => False) | _ => False)
    split at k3
    · split at k3
      · exact kOpn_ex k3
      · exact k3.elim
    · exact k3.elim
theorem mono_var (i : Nat) : MonoE (vVar i) := fun e k k' f h => by
  have h' : (match e.sl[i]? with | some (some s) => k s e | _ => False) := h
  show (match e.sl[i]? with | some (some s) => k' s e | _ => False)
  split at h'
  · exact f _ _ h'
  · exact h'.elim
theorem mono_c (d : D) : MonoE (vC d) := fun e k k' f h => f _ _ h
end
end Vl
namespace Vl
open PySem L2 PySem.Spec PyProof.Rows
/-- how a def ends -/
def dV (n : Nat) (Kp : Sl → List Ob → Prop) : VEnds := { nx := fun e => ret n (.val .none) e Kp, rt := fun s e => ret n s e Kp }
theorem dV_nx (n Kp e) : (dV n Kp).nx e = ret n (.val .none) e Kp := rfl
theorem dV_rt (n Kp s e) : (dV n Kp).rt s e = ret n s e Kp := rfl
/-- a def of the module -/
structure Df (K : PySem.W.Frag) (mg : Str → Option Value) (x : Str) (st : Stmt) (ps : List Str) : Prop where
  ex : ∃ f fd, Fun K x x st f fd ∧ Binds K fd ps [] ∧ mg x = some (.ref f)
section
variable {P : Program} {w : World} {K : PySem.W.Frag} {mg : Str → Option Value} {base : Heap}
theorem okF {x : Str} {st : Stmt} {N ps : List Str} {k : Nat} {p : VSp} {t : VTS} (Fd : Df K mg x st ps) (S : FnScope N ps (defScope st)) (len : ∀ ss st Kp, p ss st Kp → ss.length = ps.length)
    (hb : ∀ {f : Addr} {cdv : Value} {A : Around} {outer : List Env} {s : Shared} {H : Hp} {E : XK}, Room k (A.deeper (envOfC x (defScope st) s.heap.objs.size f cdv)) → VSs (cxOf CX0 P w K mg base N x (defScope st) f cdv A outer s H E).nox (defBody st) t)
    (rd : ∀ ss cs Kp, p ss cs Kp → t (dV cs.length Kp) ⟨startV N.length ss, cs.map some⟩) : VFn P w K mg base (k + 1) x ps p := by
  obtain ⟨f, fd, F, b, g⟩ := Fd.ex
  exact ⟨f, fd, okV F S len fun cdv A outer s H E hr => ⟨t, hb hr, rd⟩, F.kp, b, g⟩
theorem vacF {x : Str} {st : Stmt} {N ps : List Str} {k : Nat} {p : VSp} (Fd : Df K mg x st ps) (S : FnScope N ps (defScope st)) (no : ∀ ss st Kp, ¬ p ss st Kp) : VFn P w K mg base (k + 1) x ps p := by
  obtain ⟨f, fd, F, b, g⟩ := Fd.ex
  exact ⟨f, fd, vac F S no, F.kp, b, g⟩
end
theorem at0 {x : D} {xs : List D} : atI (x :: xs) 0 = some x := atI_nat (j := 0) rfl
theorem at1 {x y : D} {xs : List D} : atI (x :: y :: xs) 1 = some y := atI_nat (j := 1) rfl
theorem at2 {x y z : D} {xs : List D} : atI (x :: y :: z :: xs) 2 = some z := atI_nat (j := 2) rfl
theorem at3 {x y z u : D} {xs : List D} : atI (x :: y :: z :: u :: xs) 3 = some u := atI_nat (j := 3) rfl
theorem ix20 : ixN 2 0 = some 0 := rfl
theorem ix21 : ixN 2 1 = some 1 := rfl
theorem map_inj' {α β : Type} {f : α → β} (h : ∀ x y, f x = f y → x = y) : ∀ {a b : List α}, a.map f = b.map f → a = b
  | [], [], _ => rfl
  | [], _ :: _, e => by simp at e
  | _ :: _, [], e => by simp at e
  | x :: a, y :: b, e => by
    simp only [List.map_cons, List.cons.injEq] at e
    rw [h _ _ e.1, map_inj' h e.2]
theorem ofs_inj (a b : String) : (Str.ofString a = Str.ofString b) = (a = b) := by
  refine propext ⟨fun h => ?_, fun h => by rw [h]⟩
  rw [Str.ofString_eq_toList, Str.ofString_eq_toList] at h
  have h1 : a.toList.map Char.toNat = b.toList.map Char.toNat := by
    have := congrArg (fun s => s.cps.toList) h
    simpa using this
  exact String.toList_inj.mp (map_inj' (fun x y e => Char.ext (UInt32.toNat_inj.mp e)) h1)
theorem ofs_app (a b : String) : Str.ofString a ++ Str.ofString b = Str.ofString (a ++ b) := by
  rw [Str.ofString_eq_toList, Str.ofString_eq_toList, Str.ofString_eq_toList, String.toList_append, List.map_append]
  show Str.mk _ = Str.mk _
  congr 1
  simp
theorem ofs_len (a : String) : (Str.ofString a).length = a.length := by
  rw [Str.ofString_eq_toList]
  show (a.toList.map Char.toNat).toArray.size = _
  simp [String.length_toList]
def okEq : D → D → Prop
  | .int _, .int _ => True
  | .str _, .str _ => True
  | d, c => shp d = true ∧ shp c = true
theorem okEq_of {d c : D} (h1 : shp d = true) (h2 : shp c = true) : okEq d c := by
  unfold okEq
  split <;> first | trivial | exact ⟨h1, h2⟩
def xEq (neg : Bool) (s1 s2 : Sl) (e : En) (Kp : KE) : Prop := match pk s1 e, pk s2 e with
  | some d, some c => okEq d c ∧ Kp (.val (.bool (if neg then !PyData.eqv d c else PyData.eqv d c))) e
  | _, _ => False
theorem xEq_of {neg : Bool} {s1 s2 : Sl} {e : En} {Kp : KE} (h : xEq neg s1 s2 e Kp) : opEq neg s1 s2 e Kp := by
  unfold xEq at h
  unfold opEq
  split at h
  · rename_i d c h1 h2
    rw [h1, h2]
    split
    · rename_i i j a1 a2
      cases a1
      cases a2
      have q := h.2
      have z : PyData.eqv (.int i) (.int j) = decide (i = j) := Bool.eq_iff_iff.mpr (by show (i == j) = true ↔ _; simp)
      rw [z] at q
      exact q
    · rename_i i j a1 a2
      cases a1
      cases a2
      have q := h.2
      have z : PyData.eqv (.str i) (.str j) = decide (i = j) := Bool.eq_iff_iff.mpr (by show (i == j) = true ↔ _; simp)
      rw [z] at q
      exact q
    · rename_i d' c' n1 n2 a1 a2
      cases a1
      cases a2
      have q := h.1
      unfold okEq at q
      split at q
      · exact absurd rfl (n1 _ _ rfl)
      · exact absurd rfl (n2 _ _ rfl)
      · exact ⟨q.1, q.2, h.2⟩
    · rename_i n1
      exact n1 _ _ rfl rfl
  · exact h.elim
theorem p_xeq {K : PySem.W.Frag} {neg : Bool} : Prim2 K (rEq2 K neg) (xEq neg) := fun rep a1 a2 ho fin => p_eq rep a1 a2 (xEq_of ho) fin
section
variable {X : Cx} {a b : Expr} {ta tb : VTE} {pos : Pos}
theorem ve_xeq (hu : X.A.units + 190 < cLine) (ha : VE X a ta) (hb : VE X b tb) (hm : behindInMarks .Eq b = false := by exact nomark _) : VE X (.Compare a [.Eq] [b] pos) (v2 (xEq false) ta tb) := ve_cmp p_xeq (op_eq2 hu) ha hb hm
theorem vt_xeq (hu : X.A.units + 190 < cLine) (ha : VE X a ta) (hb : VE X b tb) (hm : behindInMarks .Eq b = false := by exact nomark _) : VT X (.Compare a [.Eq] [b] pos) (vTest (v2 (xEq false) ta tb)) := vt_cmp p_xeq (op_eq2 hu) ha hb hm
theorem vt_xne (hu : X.A.units + 190 < cLine) (ha : VE X a ta) (hb : VE X b tb) (hm : behindInMarks .NotEq b = false := by exact nomark _) : VT X (.Compare a [.NotEq] [b] pos) (vTest (v2 (xEq true) ta tb)) := vt_cmp p_xeq (op_ne2 hu) ha hb hm
end
theorem okEq_str (a b : Str) : okEq (.str a) (.str b) = True := rfl
theorem okEq_int (a b : Int) : okEq (.int a) (.int b) = True := rfl
theorem eqv_str (a b : Str) : PyData.eqv (.str a) (.str b) = decide (a = b) := by
  show (a == b) = _
  exact Bool.eq_iff_iff.mpr (by simp)
theorem eqvAll_cons (a b : D) (as bs : List D) : PyData.eqvAll (a :: as) (b :: bs) = (PyData.eqv a b && PyData.eqvAll as bs) := by
  rw [PyData.eqvAll]
theorem eqvAll_nil : PyData.eqvAll [] [] = true := by rw [PyData.eqvAll]
theorem eqv_tup (as bs : List D) : PyData.eqv (.tuple as) (.tuple bs) = PyData.eqvAll as bs := by rw [PyData.eqv]
theorem eqvAll_nc (b : D) (bs : List D) : PyData.eqvAll [] (b :: bs) = false := by rw [PyData.eqvAll]
theorem eqvAll_cn (b : D) (bs : List D) : PyData.eqvAll (b :: bs) [] = false := by rw [PyData.eqvAll]
theorem depthAll_nil : PyData.depthAll [] = 0 := by rw [PyData.depthAll]
theorem depthAll_cons (x : D) (xs : List D) : PyData.depthAll (x :: xs) = max x.depth (PyData.depthAll xs) := by rw [PyData.depthAll]
theorem depth_tup (xs : List D) : PyData.depth (.tuple xs) = PyData.depthAll xs + 1 := by rw [PyData.depth]
theorem depth_lst (xs : List D) : PyData.depth (.list xs) = PyData.depthAll xs + 1 := by rw [PyData.depth]
theorem depth_str (x : Str) : PyData.depth (.str x) = 0 := by rw [PyData.depth]
theorem depth_int (x : Int) : PyData.depth (.int x) = 0 := by rw [PyData.depth]
theorem can_tup (xs : List D) : PyData.canLay0 (.tuple xs) = PyData.canLayAll0 xs := by rw [PyData.canLay0]
theorem can_lst (xs : List D) : PyData.canLay0 (.list xs) = PyData.canLayAll0 xs := by rw [PyData.canLay0]
theorem can_str (x : Str) : PyData.canLay0 (.str x) = PyData.strOk x := by rw [PyData.canLay0]
theorem can_int (x : Int) : PyData.canLay0 (.int x) = true := by rw [PyData.canLay0]
theorem canAll_nil : PyData.canLayAll0 [] = true := by rw [PyData.canLayAll0]
theorem canAll_cons (x : D) (xs : List D) : PyData.canLayAll0 (x :: xs) = (x.canLay0 && PyData.canLayAll0 xs) := by rw [PyData.canLayAll0]
theorem cut1 (x : D) (xs : List D) : Vl.cut (x :: xs) (some 1) none = xs := by
  unfold Vl.cut HT.sIx
  simp
theorem eqv_int (a b : Int) : PyData.eqv (.int a) (.int b) = decide (a = b) := by
  show (a == b) = _
  exact Bool.eq_iff_iff.mpr (by simp)
theorem sz0 : (0 ≤ sizeLine) = True := eq_true (by decide)
theorem sz1 : (1 ≤ sizeLine) = True := eq_true (by decide)
theorem sz2 : (2 ≤ sizeLine) = True := eq_true (by decide)
theorem sz3 : (3 ≤ sizeLine) = True := eq_true (by decide)
theorem sz4 : (4 ≤ sizeLine) = True := eq_true (by decide)
theorem sz5 : (5 ≤ sizeLine) = True := eq_true (by decide)
theorem sz6 : (6 ≤ sizeLine) = True := eq_true (by decide)
theorem sz7 : (7 ≤ sizeLine) = True := eq_true (by decide)
theorem sz8 : (8 ≤ sizeLine) = True := eq_true (by decide)
theorem sz9 : (9 ≤ sizeLine) = True := eq_true (by decide)
theorem sz10 : (10 ≤ sizeLine) = True := eq_true (by decide)
theorem sz11 : (11 ≤ sizeLine) = True := eq_true (by decide)
theorem sz12 : (12 ≤ sizeLine) = True := eq_true (by decide)
theorem sz13 : (13 ≤ sizeLine) = True := eq_true (by decide)
theorem sz14 : (14 ≤ sizeLine) = True := eq_true (by decide)
theorem sz15 : (15 ≤ sizeLine) = True := eq_true (by decide)
theorem sz16 : (16 ≤ sizeLine) = True := eq_true (by decide)
theorem sz17 : (17 ≤ sizeLine) = True := eq_true (by decide)
theorem sz18 : (18 ≤ sizeLine) = True := eq_true (by decide)
theorem sz19 : (19 ≤ sizeLine) = True := eq_true (by decide)
theorem sz20 : (20 ≤ sizeLine) = True := eq_true (by decide)
theorem sz21 : (21 ≤ sizeLine) = True := eq_true (by decide)
theorem sz22 : (22 ≤ sizeLine) = True := eq_true (by decide)
theorem sz23 : (23 ≤ sizeLine) = True := eq_true (by decide)
theorem sz24 : (24 ≤ sizeLine) = True := eq_true (by decide)
theorem sz25 : (25 ≤ sizeLine) = True := eq_true (by decide)
theorem cpow1018 : CPow 10 18 = True := eq_true ⟨by decide, by decide, by decide⟩
end Vl
namespace Vl
open PySem L2 PySem.Spec PyProof.Rows
def isNone : D → Bool
  | .none => true
  | _ => false
theorem isNone_n : isNone .none = true := rfl
theorem isNone_t (ds : List D) : isNone (.tuple ds) = false := rfl
theorem isNone_l (ds : List D) : isNone (.list ds) = false := rfl
theorem isNone_i (i : Int) : isNone (.int i) = false := rfl
theorem isNone_s (i : Str) : isNone (.str i) = false := rfl
theorem vNext_mk (n r b c x e) : vNext ⟨n, r, b, c, x⟩ e = n e := rfl
def xIsN (neg : Bool) (s1 s2 : Sl) (e : En) (Kp : KE) : Prop := match pk s1 e, pk s2 e with
  | some d, some .none => Kp (.val (.bool (if neg then !isNone d else isNone d))) e
  | _, _ => False
def okIn (d : D) : D → Prop
  | .tuple ds => flatD d = true ∧ ds.all flatD = true
  | .list ds => SeqAt.shaped d = true ∧ SeqAt.shaped (.list ds) = true
  | _ => False
def inD (d : D) : D → Bool
  | .tuple ds => ds.any fun z => PyData.eqv z d
  | .list ds => ds.any fun z => PyData.eqv z d
  | _ => false
def xIn (neg : Bool) (s1 s2 : Sl) (e : En) (Kp : KE) : Prop := match pk s1 e, pk s2 e with
  | some d, some c => okIn d c ∧ Kp (.val (.bool (if neg then !inD d c else inD d c))) e
  | _, _ => False
theorem eqv_ti (as : List D) (i : Int) : PyData.eqv (.tuple as) (.int i) = false := by rw [PyData.eqv]
theorem eqv_it (as : List D) (i : Int) : PyData.eqv (.int i) (.tuple as) = false := by rw [PyData.eqv]
theorem eqv_st (as : List D) (i : Str) : PyData.eqv (.str i) (.tuple as) = false := by rw [PyData.eqv]
theorem eqv_ts (as : List D) (i : Str) : PyData.eqv (.tuple as) (.str i) = false := by rw [PyData.eqv]
theorem eqv_nil (xs : List D) : PyData.eqv (.list xs) (.list []) = xs.isEmpty := by
  cases xs with
  | nil => rw [PyData.eqv, eqvAll_nil]; rfl
  | cons x xs => rw [PyData.eqv, eqvAll_cn]; rfl
theorem cl_inv {g : VTG} {tt : VTT} {te : VTE} {chk : Option (En → Prop)} {vs : List Nat} {n : Nat} {ds : List D} {Kp : List D → En → Prop} (I : Nat → List D → En → Prop) (hc : ∀ i acc e, i ≤ ds.length → I i acc e → okc chk e)
    (hs : ∀ (i : Nat) (d : D) (acc : List D) (e : En) (Kt : List D → En → Prop), ds[i]? = some d → I i acc e → (∀ acc' e', I (i + 1) acc' e' → Kt acc' e') → g (.val d) e fun e1 => tt e1 fun b e2 => if b = true then te e2 fun s e3 => asD s e3 fun y e4 => acc.length < sizeLine ∧ Kt (acc ++ [y]) ((e4.wipe vs).trim n) else Kt acc ((e2.wipe vs).trim n))
    (hd : ∀ acc e, I ds.length acc e → Kp acc e) {acc : List D} {e : En} (h0 : I 0 acc e) : cl g tt te chk vs n ds acc e Kp := by
  have wc : ∀ {e : En} {p : Prop}, okc chk e → p → wth chk e p := fun {e p} h q => by
    cases chk with
    | none => exact q
    | some c => exact ⟨h, q⟩
  suffices h : ∀ (m i : Nat) (acc : List D) (e : En), m = ds.length - i → i ≤ ds.length → I i acc e → cl g tt te chk vs n (ds.drop i) acc e Kp by
    have := h ds.length 0 acc e (by simp) (Nat.zero_le _) h0
    simpa using this
  intro m
  induction m with
  | zero =>
    intro i acc e hm hi h
    have : i = ds.length := by omega
    subst this
    rw [List.drop_length]
    exact wc (hc _ _ _ hi h) (hd acc e h)
  | succ m ih =>
    intro i acc e hm hi h
    have hlt : i < ds.length := by omega
    rw [List.drop_eq_getElem_cons hlt]
    exact wc (hc _ _ _ hi h) (hs i _ acc e (fun acc' e' => cl g tt te chk vs n (ds.drop (i + 1)) acc' e' Kp) (List.getElem?_eq_getElem hlt) h fun acc' e' h' => ih (i + 1) acc' e' (by omega) hlt h')
end Vl
namespace Vl
open PySem L2
open PySem.Spec PyProof.Rows PySem.Calls
end Vl
namespace Vl
open PySem L2 PySem.Spec PyProof.Rows
def intsD : List D → Option (List Int)
  | [] => some []
  | .int x :: ds => (intsD ds).map (x :: ·)
  | _ => none
theorem intsD_at {K : PySem.W.Frag} {F : Hp} : ∀ {ds : List D} {vs : List V} {ys : List Int}, intsD ds = some ys → AtL K F ds vs → vs = ys.map V.int
  | [], _, _, h, a => by
    cases h
    cases a
    rfl
  | .int x :: ds, _, ys, h, a => by
    have h' : (intsD ds).map (x :: ·) = some ys := h
    obtain ⟨zs, hz, rfl⟩ := Option.map_eq_some_iff.mp h'
    cases a with
    | cons a1 a2 =>
      cases a1
      rw [intsD_at hz a2] <;> rfl
  | .none :: _, _, _, h, _ => by cases h
  | .bool _ :: _, _, _, h, _ => by cases h
  | .str _ :: _, _, _, h, _ => by cases h
  | .list _ :: _, _, _, h, _ => by cases h
  | .tuple _ :: _, _, _, h, _ => by cases h
  | .dict _ :: _, _, _, h, _ => by cases h
def kOps {α : Type} (o : Option α) (k : α → Prop) : Prop := match o with
  | some d => k d
  | none => False
theorem kOps_some {α : Type} {d : α} {k : α → Prop} : kOps (some d) k = k d := rfl
theorem kOps_ex {α : Type} {o : Option α} {k : α → Prop} (h : kOps o k) : ∃ d, o = some d ∧ k d := by
  cases o with
  | none => exact h.elim
  | some d => exact ⟨d, rfl, h⟩
def opSum (ss : List Sl) (e : En) (Kp : KE) : Prop := match ss with
  | [s] => (match pk s e with
    | some (.list ds) => kOps (intsD ds) fun ns => Kp (.val (.int ns.sum)) e
    | _ => False)
  | _ => False
section
variable {X : Cx} {a b o : Expr} {ta tb to : VTE} {pos : Pos}
def opInsert (s : Sl) (ss : List Sl) (e : En) (Kp : KE) : Prop := match ss with
  | [si, t] => (match pk si e with
    | some (.int i) => asD t e fun d e1 => (match s with
      | .obj j => (match e1.st[j]? with
        | some (some (.l ds)) => (ds.length < sizeLine ∧ 0 ≤ i ∧ i < 2 ^ 63) ∧ Kp (.val .none) ⟨e1.sl, e1.st.set j (some (.l (ds.take i.toNat ++ [d] ++ ds.drop i.toNat)))⟩
        | _ => False)
      | _ => False)
    | _ => False)
  | _ => False
/-- where data stands first -/
def ixD (d : D) : List D → Option Nat
  | [] => none
  | z :: ds => if PyData.eqv z d = true then some 0 else (ixD d ds).map (· + 1)
def opIndex (s : Sl) (ss : List Sl) (e : En) (Kp : KE) : Prop := match ss with
  | [t] => (match pk s e, pk t e with
    | some (.list ds), some d => (SeqAt.shaped (.list ds) = true ∧ SeqAt.shaped d = true) ∧ kOps (ixD d ds) fun j => Kp (.val (.int (j : Nat))) e
    | _, _ => False)
  | _ => False
def opDivmod (ss : List Sl) (e : En) (Kp : KE) : Prop := match ss with
  | [s, t] => (match pk s e, pk t e with
    | some (.int i), some (.int j) => CDiv6 i j ∧ Kp (.val (.tuple [.int (i / j), .int (i % j)])) e
    | _, _ => False)
  | _ => False
end
end Vl
namespace Vl
open PySem L2 PySem.Spec PyProof.Rows
theorem cl_mapE {α : Type} {g : VTG} {te : VTE} {vs : List Nat} {n : Nat} {Kp : List D → En → Prop} (enc f : α → D) (xs : List α) {e : En} {acc : List D} (hl : acc.length + xs.length ≤ sizeLine)
    (hs : ∀ (x : α) (Kt : D → En → Prop), x ∈ xs → (∀ e', (e'.wipe vs).trim n = e → Kt (f x) e') → g (.val (enc x)) e fun e1 => te e1 fun s e3 => asD s e3 Kt) (h : Kp (acc ++ xs.map f) e) : cl g vYes te none vs n (xs.map enc) acc e Kp := by
  refine cl_inv (chk := none) (fun i a e' => a = acc ++ (xs.take i).map f ∧ e' = e) (fun _ _ _ _ _ => trivial) ?_ ?_ ⟨by simp, rfl⟩
  · rintro i d a e' Kt hd ⟨rfl, rfl⟩ hk
    rw [List.getElem?_map] at hd
    obtain ⟨x, hx, rfl⟩ := Option.map_eq_some_iff.mp hd
    have hlt := (List.getElem?_eq_some_iff.mp hx).1
    unfold vYes
    simp only [if_true]
    refine hs x (fun y e4 => (acc ++ (xs.take i).map f).length < sizeLine ∧ Kt (acc ++ (xs.take i).map f ++ [y]) ((e4.wipe vs).trim n)) (List.mem_of_getElem? hx) fun e4 h4 => ⟨?_, hk _ _ ⟨?_, h4⟩⟩
    · rw [List.length_append, List.length_map, List.length_take]
      omega
    · rw [List.take_add_one, hx, List.map_append, List.append_assoc] <;> rfl
  · rintro a e' ⟨rfl, rfl⟩
    rw [List.length_map, List.take_length]
    exact h
theorem rng_eq (lo : Int) (n : Nat) : rng lo n = (List.range n).map fun (i : Nat) => PyData.int (lo + i) := rfl
end Vl
namespace Vl
open PySem L2 PySem.Spec PyProof.Rows
def spLaw (K : PySem.W.Frag) : Sp := fun vs H Q _ => ∃ (a : Addr) (ns : List Int), vs = [.ref a] ∧ SqL K H a (ns.map V.int) ∧ ns.length ≤ 63 ∧ (∀ P, TbK K P → GxR.TabG H P) ∧ ∀ H', Q (.bl true) H'
def pLaw : VSp := fun ss st Kp => ∃ ns : List Int, ss = [.kn (ns.map .int)] ∧ st = [] ∧ ns.length ≤ 63 ∧ Kp (.val (.bool true)) []
theorem atL_ints {K : PySem.W.Frag} {F : Hp} : ∀ ns : List Int, AtL K F (ns.map .int) (ns.map V.int)
  | [] => .nil
  | n :: ns => .cons (.int n) (atL_ints ns)
open Classical in
theorem law_sp {K : PySem.W.Frag} : ∀ vs H Q E, spLaw K vs H Q E → spV K pLaw vs H Q E := by
  rintro vs H Q E ⟨a, ns, rfl, hs, hl, ht, hq⟩
  let F : Hp := fun b => if b = a ∧ ¬ TbK K b then H b else none
  have hF : ∀ {b : Addr} {o : HO}, F b = some o → H b = some o := fun {b o} h => by
    have h' : (if b = a ∧ ¬ TbK K b then H b else none) = some o := h
    split at h'
    · exact h'
    · cases h'
  have ha : ∀ o, H a = some o → (∀ ps, o ≠ .tbl ps) → F a = some o := fun o h no => by
    show (if a = a ∧ ¬ TbK K a then H a else none) = some o
    rw [if_pos ⟨rfl, fun z => by
      obtain ⟨ps, h1, _⟩ := ht a z
      rw [h] at h1
      exact no ps (Option.some.inj h1)⟩, h]
  have tb : Tbs K (fun _ => none) F H [] := ⟨fun P hP => ⟨ht P hP, by
    show (if P = a ∧ ¬ TbK K P then H P else none) = none
    rw [if_neg (fun z => z.2 hP)], rfl, List.not_mem_nil⟩⟩
  refine ⟨fun _ => none, F, [], [.kn (ns.map .int)], [], fun s st => s = .val (.bool true), ⟨fun b o h => hF h, fun _ _ h => (nomatch h), fun _ _ h => (nomatch h), rfl, rfl, List.nodup_nil, fun _ h => (nomatch h), fun i s h => ?_, fun j ob h => (by simp at h), tb⟩, ⟨ns, rfl, rfl, hl, rfl⟩, ?_⟩
  · cases i with
    | zero =>
      have h' : some (some (Sl.kn (ns.map .int))) = some (some s) := h
      cases h'
      refine ⟨.ref a, rfl, a, ns.map V.int, rfl, ?_, atL_ints ns⟩
      rcases hs with (h | ⟨o, h⟩) | h
      · exact .inl (.inl (ha _ h fun _ z => by cases z))
      · exact .inl (.inr ⟨o, ha _ h fun _ z => by cases z⟩)
      · exact .inr h
    | succ i => simp at h
  · rintro s st' v F' A' H' rfl l p rep
    obtain ⟨v', hv, av⟩ := rep.slot 0 _ rfl
    have e : some v = some v' := by simpa using hv
    cases e
    cases (show At K F' (.bool true) v from av)
    exact hq H'
end Vl
namespace Vl
open PySem L2
def En.wk (m : Nat) (fs : List Nat) (e : En) : En := if e.st.any isMo = true then ⟨wipeE e.sl fs, e.st⟩ else ⟨(wipeE e.sl fs).map (clr m), e.st.take m⟩
theorem Rep.wk {K : PySem.W.Frag} {R F : Hp} {A A1 : List Addr} {σ : L2.St} {H : Hp} {e : En} (r : Rep K R F A σ H e) {n : Nat} (p : A1 <+: A) (hn : A1.length = n) (m : Nat) (fs : List Nat) (hm : n ≤ m) : ∃ A', A1 <+: A' ∧ Rep K R F A' σ H (e.wk m fs) := by
  have r' : Rep K R F A σ H ⟨wipeE e.sl fs, e.st⟩ := r.weak (by rw [wipeE_len]; exact r.len) fun i s h => r.slot i s (wipeE_at h).2
  by_cases hmo : e.st.any isMo = true
  · refine ⟨A, p, ?_⟩
    unfold En.wk
    rw [if_pos hmo]
    exact r'
  have et : e.wk m fs = ⟨(wipeE e.sl fs).map (clr m), e.st.take m⟩ := by
    unfold En.wk
    rw [if_neg hmo]
  rw [et]
  have pa : A.take m <+: A := List.take_prefix _ _
  refine ⟨A.take m, ?_, r.sub, r.keep, fun a o z => ⟨(r.apart a o z).1, fun hm => (r.apart a o z).2 (List.mem_of_mem_take hm)⟩, by simp [r'.len], ?_, ?_, fun a ha => r.live a (List.mem_of_mem_take ha), fun i s z => ?_, fun j ob z => ?_, r.tabs.sub fun a ha => List.mem_of_mem_take ha⟩
  · have h1 : A1.length ≤ A.length := p.length_le
    exact List.prefix_of_prefix_length_le p pa (by rw [List.length_take]; omega)
  · show (e.st.take m).length = _
    rw [List.length_take, List.length_take, r.lenA]
  · exact (List.take_sublist _ _).nodup r.nodup
  · have z' : ((wipeE e.sl fs).map (clr m))[i]? = some (some s) := z
    rw [List.getElem?_map] at z'
    obtain ⟨t, ht, hs⟩ := Option.map_eq_some_iff.mp z'
    cases t with
    | none => cases hs
    | some t =>
      obtain ⟨v, h1, h2⟩ := r'.slot i t ht
      cases t with
      | val d =>
        cases hs
        exact ⟨v, h1, h2⟩
      | kn d =>
        cases hs
        exact ⟨v, h1, h2⟩
      | exc d =>
        cases hs
        exact ⟨v, h1, h2⟩
      | obj j =>
        replace hs : (if j < m then some (Sl.obj j) else none) = some s := hs
        split at hs
        · rename_i hj
          cases hs
          obtain ⟨a, e1, e2⟩ := h2
          exact ⟨v, h1, a, by rw [List.getElem?_take_of_lt hj]; exact e1, e2⟩
        · cases hs
  · have z' : (e.st.take m)[j]? = some (some ob) := z
    have hj : j < m := by
      have := (List.getElem?_eq_some_iff.mp z').1
      rw [List.length_take] at this
      omega
    rw [List.getElem?_take_of_lt hj] at z'
    obtain ⟨a, h1, h2, h3⟩ := r.store j ob z'
    refine ⟨a, by rw [List.getElem?_take_of_lt hj]; exact h1, h2, h3.noMo ?_⟩
    cases q : isMo (some ob) with
    | false => rfl
    | true => exact absurd (List.any_eq_true.mpr ⟨_, List.mem_of_getElem? z', q⟩) hmo
def wlW (c : VTT) (tb : VTS) (n : Nat) : Nat → VEnds → En → Prop
  | 0, _, _ => False
  | m + 1, D, e => c e fun b e1 => if b = true then tb { D with nx := fun e' => ∃ q fs, n ≤ q ∧ wlW c tb n m D (e'.wk q fs), ct := fun e' => ∃ q fs, n ≤ q ∧ wlW c tb n m D (e'.wk q fs), bk := D.nx } e1 else D.nx e1
def vWhileW (c : VTT) (tb : VTS) : VTS := fun D e => ∃ m, wlW c tb e.st.length m D e
theorem vs_whileW {X : Cx} {pos : Pos} {c : Expr} {body : List Stmt} {tc : VTT} {tb : VTS} (hp : PassesOwn (model X.prog X.w) X.A X.env X.xe) (hc : VT X c tc) (hb : VSs X body tb) : VS X (.While c body [] pos) (vWhileW tc tb) := PS.imp (ps_while hp hc hb) fun D σ H h => by
  obtain ⟨R, F, A, e, DV, rep, ⟨m, k⟩, fin⟩ := h
  refine ⟨fun m σ' H' => ∃ F' A' e', Le F F' ∧ A <+: A' ∧ Rep X.K R F' A' σ' H' e' ∧ wlW tc tb e.st.length m DV e', ⟨m, F, A, e, Le.refl F, pfx_refl A, rep, k⟩, ?_⟩
  rintro m σ' H' ⟨F', A', e', l, p, rep', k⟩
  cases m with
  | zero => exact False.elim k
  | succ m =>
    refine ⟨R, F', A', e', _, rep', k, fun b e1 F1 A1 H1 k1 l1 p1 rep1 => ?_⟩
    cases b with
    | false => exact fin.nx _ _ _ _ _ k1 (l.trans l1) (p.trans p1) rep1
    | true =>
      have nxt : ∀ e2 σ2 F2 A2 H2, (∃ q fs, e.st.length ≤ q ∧ wlW tc tb e.st.length m DV (e2.wk q fs)) → Le F1 F2 → A1 <+: A2 → Rep X.K R F2 A2 σ2 H2 e2 → ∃ F' A' e', Le F F' ∧ A <+: A' ∧ Rep X.K R F' A' σ2 H2 e' ∧ wlW tc tb e.st.length m DV e' := fun e2 σ2 F2 A2 H2 ⟨q, fs, hq, k2⟩ l2 p2 rep2 => by
        obtain ⟨A3, p3, rep3⟩ := rep2.wk (A1 := A) (n := e.st.length) ((p.trans p1).trans p2) rep.lenA.symm q fs hq
        exact ⟨F2, A3, _, (l.trans l1).trans l2, p3, rep3, k2⟩
      refine ⟨fun σ2 H2 => ∃ F' A' e', Le F F' ∧ A <+: A' ∧ Rep X.K R F' A' σ2 H2 e' ∧ wlW tc tb e.st.length m DV e', fun σ2 H2 q => ⟨m, Nat.lt_succ_self m, q⟩, ?_⟩
      exact ⟨R, F1, A1, e1, _, rep1, k1, nxt, fun e2 σ2 F2 A2 H2 k2 l2 p2 rep2 => fin.nx _ _ _ _ _ k2 ((l.trans l1).trans l2) ((p.trans p1).trans p2) rep2, nxt, fun s e2 v σ2 F2 A2 H2 k2 l2 p2 rep2 a2 => fin.rt _ _ _ _ _ _ _ k2 ((l.trans l1).trans l2) ((p.trans p1).trans p2) rep2 a2, fin.ex.tr (l.trans l1) (p.trans p1)⟩
def flW (g : VTG) (tb : VTS) (chk : Option (En → Prop)) (n : Nat) : List D → VEnds → En → Prop
  | [], D, e => wth chk e (D.nx e)
  | d :: ds, D, e => wth chk e (g (.val d) e fun e1 => tb { D with nx := fun e' => ∃ q fs, n ≤ q ∧ flW g tb chk n ds D (e'.wk q fs), ct := fun e' => ∃ q fs, n ≤ q ∧ flW g tb chk n ds D (e'.wk q fs), bk := D.nx } e1)
def vForW (w : VTI) (g : VTG) (tb : VTS) : VTS := fun D e => w e fun ds chk e1 => flW g tb chk e1.st.length ds D e1
theorem vs_forW {X : Cx} {pos : Pos} {tg it : Expr} {body : List Stmt} {w : VTI} {g : VTG} {ws : List Nat} {tb : VTS} (hi : VI X tg it w) (hg : VG X tg ws g) (hb : VSs X body tb) (hp : ∀ {wi : TI} {tgg : TG} {tbb : TS}, PI X tg it wi → PG X tg tgg → PSs X body tbb → PS X (.For tg it body [] pos) (tFor wi tgg tbb)) :
    VS X (.For tg it body [] pos) (vForW w g tb) := PS.imp (hp hi hg hb) fun D σ H h => by
  obtain ⟨R, F, A, e, DV, rep, k, fin⟩ := h
  refine ⟨R, F, A, e, _, rep, k, fun ds chk e1 F1 A1 H1 J k1 l1 p1 rep1 it => ?_⟩
  refine ⟨fun i m σ' H' => ∃ F' A' e', m = ds.length - i ∧ i ≤ ds.length ∧ Le F1 F' ∧ A1 <+: A' ∧ Rep X.K R F' A' σ' H' e' ∧ flW g tb chk e1.st.length (ds.drop i) DV e', ⟨_, F1, A1, e1, rfl, Nat.zero_le _, Le.refl _, pfx_refl _, rep1, k1⟩, ?_⟩
  rintro i m σ' H' ⟨F', A', e', rfl, hi, l, p, rep', k⟩
  rcases Nat.lt_or_ge i ds.length with hlt | hge
  · right
    obtain ⟨d, hd⟩ : ∃ d, ds[i]? = some d := ⟨ds[i], by simp [hlt]⟩
    have hdr : ds.drop i = d :: ds.drop (i + 1) := by
      rw [List.drop_eq_getElem_cons hlt]
      rw [List.getElem?_eq_getElem hlt] at hd
      cases hd
      rfl
    rw [hdr] at k
    obtain ⟨kc, k⟩ := wth_ok k
    obtain ⟨g1, g2⟩ := it.go i d hd l p rep' kc
    have nxt : ∀ e2 σ2 F2 A2 H2, (∃ q fs, e1.st.length ≤ q ∧ flW g tb chk e1.st.length (ds.drop (i + 1)) DV (e2.wk q fs)) → Le F1 F2 → A1 <+: A2 → Rep X.K R F2 A2 σ2 H2 e2 → ∃ F' A' e', ds.length - (i + 1) = ds.length - (i + 1) ∧ i + 1 ≤ ds.length ∧ Le F1 F' ∧ A1 <+: A' ∧ Rep X.K R F' A' σ2 H2 e' ∧ flW g tb chk e1.st.length (ds.drop (i + 1)) DV e' := fun e2 σ2 F2 A2 H2 ⟨q, fs, hq, k2⟩ l2 p2 rep2 => by
      obtain ⟨A3, p3, rep3⟩ := rep2.wk (A1 := A1) (n := e1.st.length) p2 rep1.lenA.symm q fs hq
      exact ⟨F2, A3, _, rfl, hlt, l2, p3, rep3, k2⟩
    refine ⟨g1, fun σ2 H2 => ∃ F' A' e', ds.length - (i + 1) = ds.length - (i + 1) ∧ i + 1 ≤ ds.length ∧ Le F1 F' ∧ A1 <+: A' ∧ Rep X.K R F' A' σ2 H2 e' ∧ flW g tb chk e1.st.length (ds.drop (i + 1)) DV e', fun σ2 H2 q => ⟨ds.length - (i + 1), by omega, q⟩, fun x H3 y => ?_⟩
    obtain ⟨F3, l3, rep3, a3⟩ := g2 x H3 y
    refine ⟨R, F3, A', e', .val d, _, rep3, a3, k, fun e2 σ2 F2 A2 H2 k2 l2 p2 o2 rep2 => ⟨R, F2, A2, e2, _, rep2, k2, ?_⟩⟩
    have lf := (l.trans l3).trans l2
    have pf := p.trans p2
    exact ⟨fun e3 σ3 F4 A3 H4 k3 l4 p3 rep4 => nxt _ _ _ _ _ k3 (lf.trans l4) (pf.trans p3) rep4, fun e3 σ3 F4 A3 H4 k3 l4 p3 rep4 => fin.nx _ _ _ _ _ k3 (l1.trans (lf.trans l4)) (p1.trans (pf.trans p3)) rep4,
      fun e3 σ3 F4 A3 H4 k3 l4 p3 rep4 => nxt _ _ _ _ _ k3 (lf.trans l4) (pf.trans p3) rep4, fun s e3 v σ3 F4 A3 H4 k3 l4 p3 rep4 a4 => fin.rt _ _ _ _ _ _ _ k3 (l1.trans (lf.trans l4)) (p1.trans (pf.trans p3)) rep4 a4, fin.ex.tr (l1.trans lf) (p1.trans pf)⟩
  · left
    have e0 : i = ds.length := by omega
    subst e0
    rw [List.drop_length] at k
    obtain ⟨kc, k⟩ := wth_ok k
    exact ⟨it.stop l p rep' kc, fin.nx _ _ _ _ _ k (l1.trans l) (p1.trans p) rep'⟩
theorem fl_invW {α : Type} {g : VTG} {tb : VTS} {chk : Option (En → Prop)} {n : Nat} (enc : α → D) (xs : List α) {DV : VEnds} (I : List α → En → Prop) (hc : ∀ ys e, I ys e → okc chk e)
    (hs : ∀ (ys : List α) (x : α) (zs : List α) (e : En) (Nx : En → Prop), xs = ys ++ x :: zs → I ys e → (∀ e' q fs, n ≤ q → I (ys ++ [x]) (e'.wk q fs) → Nx e') → g (.val (enc x)) e fun e1 => tb { DV with nx := Nx, ct := Nx, bk := DV.nx } e1)
    (hd : ∀ e, I xs e → DV.nx e) {e : En} (h0 : I [] e) : flW g tb chk n (xs.map enc) DV e := by
  have wc : ∀ {e : En} {p : Prop}, okc chk e → p → wth chk e p := fun {e p} h q => by
    cases chk with
    | none => exact q
    | some c => exact ⟨h, q⟩
  suffices h : ∀ (zs ys : List α) (e : En), xs = ys ++ zs → I ys e → flW g tb chk n (zs.map enc) DV e from h xs [] e rfl h0
  intro zs
  induction zs with
  | nil =>
    intro ys e h hI
    rw [List.append_nil] at h
    subst h
    exact wc (hc _ _ hI) (hd e hI)
  | cons z zs ih =>
    intro ys e h hI
    exact wc (hc _ _ hI) (hs ys z zs e _ h hI fun e' q fs hq h' => ⟨q, fs, hq, ih (ys ++ [z]) _ (by rw [h]; simp) h'⟩)
theorem while_invW {c : VTT} {tb : VTS} {DV : VEnds} {e : En} (I : Nat → En → Prop)
    (hs : ∀ (m : Nat) (e' : En) (Nx : En → Prop), I m e' → (∀ m' e'' q fs, m' < m → e.st.length ≤ q → I m' (e''.wk q fs) → Nx e'') → c e' fun b e1 => if b = true then tb { DV with nx := Nx, ct := Nx, bk := DV.nx } e1 else DV.nx e1)
    {m : Nat} (h0 : I m e) : vWhileW c tb DV e := by
  suffices h : ∀ (f m : Nat) (e' : En), m < f → I m e' → wlW c tb e.st.length f DV e' from ⟨m + 1, h (m + 1) m e (Nat.lt_succ_self m) h0⟩
  intro f
  induction f with
  | zero => intro m e' h; omega
  | succ f ih => exact fun m e' h hI => hs m e' (fun e'' => ∃ q fs, e.st.length ≤ q ∧ wlW c tb e.st.length f DV (e''.wk q fs)) hI fun m' e'' q fs hm' hq h' => ⟨q, fs, hq, ih m' _ (by omega) h'⟩
def vStar (ta : VTE) (t : VTA) : VTA := fun e Kp => ta e fun s e1 => match pk s e1 with
  | some (.tuple ds) => t e1 fun ss e2 => Kp (ds.map .val ++ ss) e2
  | some (.list ds) => t e1 fun ss e2 => Kp (ds.map .val ++ ss) e2
  | _ => False
theorem SlAts.app {K : PySem.W.Frag} {F : Hp} {A : List Addr} {vs us : List V} {ss ts : List Sl} (h : SlAts K F A vs ss) (g : SlAts K F A us ts) : SlAts K F A (vs ++ us) (ss ++ ts) := by
  induction h with
  | nil => exact g
  | cons h _ ih => exact .cons h ih
end Vl
namespace Vl
open PySem L2 PySem.Spec PyProof.Rows
abbrev VSx := List Sl → List Ob → (Sl → List Ob → Prop) → (Xv → List Ob → Prop) → Prop
def spX (K : PySem.W.Frag) (mg : Str → Option Value) (p : VSx) : Sp := fun vs H Q E => ∃ R F A ss st Kp Ep, Rep K R F A (vs.map some) H ⟨ss.map some, st.map some⟩ ∧ p ss st Kp Ep ∧
  (∀ s st' v F' A' H', Kp s st' → Le F F' → A <+: A' → Rep K R F' A' [some v] H' ⟨[some s], st'.map some⟩ → Q v H') ∧
  (∀ x st' F' A' H' cls d, Ep x st' → Le F F' → A <+: A' → Rep K R F' A' [some .non] H' ⟨[some (.val .none)], st'.map some⟩ → XAt K mg F' H' x cls d → E cls d H')
structure VFx (P : Program) (w : World) (K : PySem.W.Frag) (mg : Str → Option Value) (base : Heap) (k : Nat) (x : Str) (ps : List Str) (p : VSx) : Prop where
  ex : ∃ f fd, FnOk P w K mg base (L2.CX P w) k f fd ps (spX K mg p) ∧ PySem.W.keepIn K (.ref f) = true ∧ Binds K fd ps [] ∧ mg x = some (.ref f)
theorem VFx.mono {P : Program} {w : World} {K : PySem.W.Frag} {mg : Str → Option Value} {base : Heap} {j k : Nat} {x : Str} {ps : List Str} {p : VSx} (h : VFx P w K mg base j x ps p) (l : j ≤ k) : VFx P w K mg base k x ps p := by
  obtain ⟨f, fd, a, b, c, d⟩ := h.ex
  exact ⟨f, fd, a.mono l, b, c, d⟩
end Vl
namespace Vl
open PySem L2 PySem.Spec PyProof.Rows
end Vl
namespace Vl
open PySem L2 PySem.Spec PyProof.Rows
end Vl
namespace Vl
open PySem L2 PySem.Spec PyProof.Rows
end Vl
namespace Vl
open PySem L2 PySem.Spec PyProof.Rows
end Vl
namespace Vl
open PySem L2
end Vl
namespace Vl
open PySem L2 PySem.Spec PyProof.Rows
abbrev Ky := L2.Key
def dKey : D → Option Ky
  | .int i => some (.inl i)
  | .str x => some (.inr x)
  | _ => none
def findK {α : Type} (kvs : List (Ky × α)) (k : Ky) : Option α := (kvs.find? fun kv => decide (kv.1 = k)).map (·.2)
def putM {α : Type} (kvs : List (Ky × α)) (k : Ky) (d : α) : List (Ky × α) :=
  if (kvs.any fun kv => decide (kv.1 = k)) = true then kvs.map (fun kv => if kv.1 = k then (kv.1, d) else kv) else kvs ++ [(k, d)]
section
variable {K : PySem.W.Frag} {F : Hp} {A : List Addr}
theorem findK_cons {α : Type} (p : Ky × α) (r : List (Ky × α)) (k : Ky) : findK (p :: r) k = if p.1 = k then some p.2 else findK r k := by
  unfold findK
  rw [List.find?_cons]
  by_cases h : p.1 = k
  · rw [if_pos h, decide_eq_true h]
    rfl
  · rw [if_neg h, decide_eq_false h]
theorem findK_any {α : Type} (k : Ky) : ∀ kvs : List (Ky × α), (kvs.any fun kv => decide (kv.1 = k)) = (findK kvs k).isSome
  | [] => rfl
  | p :: r => by
    rw [List.any_cons, findK_cons, findK_any k r]
    by_cases h : p.1 = k
    · rw [if_pos h, decide_eq_true h]
      rfl
    · rw [if_neg h, decide_eq_false h, Bool.false_or]
theorem KvAt.val {kvs : List (Ky × D)} {vs : List (Ky × V)} (h : KvAt K F kvs vs) (k : Ky) : (∀ d, findK kvs k = some d → ∃ v, valV vs k = some v ∧ At K F d v) ∧ (findK kvs k = none → valV vs k = none) := by
  induction h with
  | nil => exact ⟨fun d e => (by cases e), fun _ => rfl⟩
  | @cons k' d' v' kvs' vs' h1 h2 ih =>
    by_cases e : k' = k
    · refine ⟨fun d q => ?_, fun q => ?_⟩
      · rw [findK_cons, if_pos e] at q
        cases q
        exact ⟨v', valV_pos (p := (k', v')) e, h1⟩
      · rw [findK_cons, if_pos e] at q
        cases q
    · refine ⟨fun d q => ?_, fun q => ?_⟩
      · rw [findK_cons, if_neg e] at q
        obtain ⟨v, z1, z2⟩ := ih.1 d q
        exact ⟨v, by rw [valV_neg (p := (k', v')) e]; exact z1, z2⟩
      · rw [findK_cons, if_neg e] at q
        rw [valV_neg (p := (k', v')) e]
        exact ih.2 q
theorem KvAt.len {kvs : List (Ky × D)} {vs : List (Ky × V)} (h : KvAt K F kvs vs) : vs.length = kvs.length := by
  induction h with
  | nil => rfl
  | cons _ _ ih => simp [ih]
theorem KvAt.anyK {kvs : List (Ky × D)} {vs : List (Ky × V)} (h : KvAt K F kvs vs) (k : Ky) : (vs.any fun kv => decide (kv.1 = k)) = kvs.any fun kv => decide (kv.1 = k) := by
  induction h with
  | nil => rfl
  | cons _ _ ih => rw [List.any_cons, List.any_cons, ih]
theorem KvAt.app {a b : List (Ky × D)} {vs us : List (Ky × V)} (h : KvAt K F a vs) (g : KvAt K F b us) : KvAt K F (a ++ b) (vs ++ us) := by
  induction h with
  | nil => exact g
  | cons h1 _ ih => exact .cons h1 ih
theorem KvAt.put {kvs : List (Ky × D)} {vs : List (Ky × V)} (h : KvAt K F kvs vs) (k : Ky) {d : D} {v : V} (g : At K F d v) : KvAt K F (putM kvs k d) (putK vs k v) := by
  unfold putM putK
  rw [h.anyK k]
  split
  · rename_i q0
    clear q0
    induction h with
    | nil => exact .nil
    | @cons k' d' v' kvs' vs' h1 h2 ih =>
      rw [List.map_cons, List.map_cons]
      by_cases e : k' = k
      · simp only [e, if_true]
        exact .cons g ih
      · simp only [e, if_false]
        exact .cons h1 ih
  · exact h.app (.cons g .nil)
theorem MoAt.val {kvs : List (Ky × Nat)} {vs : List (Ky × V)} (h : MoAt A kvs vs) (k : Ky) : (∀ j, findK kvs k = some j → ∃ a, valV vs k = some (.ref a) ∧ A[j]? = some a) ∧ (findK kvs k = none → valV vs k = none) := by
  induction h with
  | nil => exact ⟨fun d e => (by cases e), fun _ => rfl⟩
  | @cons k' d' v' kvs' vs' h1 h2 ih =>
    by_cases e : k' = k
    · refine ⟨fun d q => ?_, fun q => ?_⟩
      · rw [findK_cons, if_pos e] at q
        cases q
        exact ⟨v', valV_pos (p := (k', V.ref v')) e, h1⟩
      · rw [findK_cons, if_pos e] at q
        cases q
    · refine ⟨fun d q => ?_, fun q => ?_⟩
      · rw [findK_cons, if_neg e] at q
        obtain ⟨v, z1, z2⟩ := ih.1 d q
        exact ⟨v, by rw [valV_neg (p := (k', V.ref v')) e]; exact z1, z2⟩
      · rw [findK_cons, if_neg e] at q
        rw [valV_neg (p := (k', V.ref v')) e]
        exact ih.2 q
theorem MoAt.app {a b : List (Ky × Nat)} {vs us : List (Ky × V)} (h : MoAt A a vs) (g : MoAt A b us) : MoAt A (a ++ b) (vs ++ us) := by
  induction h with
  | nil => exact g
  | cons h1 _ ih => exact .cons h1 ih
theorem MoAt.len {kvs : List (Ky × Nat)} {vs : List (Ky × V)} (h : MoAt A kvs vs) : vs.length = kvs.length := by
  induction h with
  | nil => rfl
  | cons _ _ ih => simp [ih]
end
/-- a key by its datum -/
theorem key_at {K : PySem.W.Frag} {F H : Hp} {v : V} {d : D} {k : Ky} (h : Pk K F H v d) (e : dKey d = some k) : v = kV k := by
  cases d with
  | int i =>
    cases e
    exact h.int
  | str x =>
    cases e
    exact h.str
  | _ => cases e
section
variable {X : Cx} {a b c d o : Expr} {ta tb tc td to : VTE} {pos apos cpos : Pos}
/-- {} of its own: of data, of lists -/
def vDctM : VTE := fun e Kp => Kp (.obj e.st.length) ⟨e.sl, e.st ++ [some (.m [])]⟩
theorem ve_dctM : VE X (.Dict [] [] pos) vDctM := PE.imp pe_dnewK fun σ H Q h => by
  obtain ⟨R, F, A, e, Kp, rep, k, fin⟩ := h
  intro p hp
  obtain ⟨r2, pf⟩ := rep.allocO hp (o := .dK []) (ob := .m []) ⟨[], rfl, .nil⟩
  exact fin (.obj e.st.length) _ (.ref p) F (A ++ [p]) _ k (Le.refl F) pf r2 ⟨p, by rw [rep.lenA, List.getElem?_append_right (Nat.le_refl _), Nat.sub_self]; rfl, rfl⟩
/-- what d.get(k), d[k], k in d look at -/
def dGetO (s0 s1 : Sl) (e : En) (Kp : Option Sl → Prop) : Prop := match s0 with
  | .obj j => (match pk s1 e with
    | some dk => (match dKey dk with
      | some k => (match e.st[j]? with
        | some (some (.m kvs)) => Kp ((findK kvs k).map .val)
        | some (some (.mo kvs)) => Kp ((findK kvs k).map .obj)
        | some (some (.lk _ _ kvs)) => Kp ((findK kvs k).map .val)
        | _ => False)
      | none => False)
    | none => False)
  | _ => False
theorem dget_ok {K : PySem.W.Frag} {R F : Hp} {A : List Addr} {σ : L2.St} {H : Hp} {e : En} {x y : V} {s0 s1 : Sl} {Kp : Option Sl → Prop} (rep : Rep K R F A σ H e) (a0 : SlAt K F A x s0) (a1 : SlAt K F A y s1) (h : dGetO s0 s1 e Kp) :
    ∃ a r s, x = .ref a ∧ DGet H a y r ∧ Kp s ∧ (match s with | some s => ∃ v, r = some v ∧ SlAt K F A v s | none => r = none) := by
  unfold dGetO at h
  split at h
  · rename_i j
    split at h
    · rename_i dk hk
      split at h
      · rename_i k ek
        have ey := key_at (rep.pk a1 hk) ek
        obtain ⟨a, ea, rfl⟩ := a0
        split at h
        · rename_i kvs hs
          obtain ⟨a', e1, hF, vs, e2, kv⟩ := rep.store j _ hs
          rw [ea] at e1
          cases e1
          obtain ⟨z1, z2⟩ := kv.val k
          cases q : findK kvs k with
          | some d =>
            obtain ⟨v, w1, w2⟩ := z1 d q
            rw [q] at h
            exact ⟨a, some v, some (.val d), rfl, .inl ⟨vs, k, .inl e2, ey, w1.symm⟩, h, v, rfl, w2⟩
          | none =>
            rw [q] at h
            exact ⟨a, none, none, rfl, .inl ⟨vs, k, .inl e2, ey, (z2 q).symm⟩, h, rfl⟩
        · rename_i kvs hs
          obtain ⟨a', e1, hF, vs, e2, kv⟩ := rep.store j _ hs
          rw [ea] at e1
          cases e1
          obtain ⟨z1, z2⟩ := kv.val k
          cases q : findK kvs k with
          | some i =>
            obtain ⟨b, w1, w2⟩ := z1 i q
            rw [q] at h
            exact ⟨a, some (.ref b), some (.obj i), rfl, .inl ⟨vs, k, .inl e2, ey, w1.symm⟩, h, _, rfl, b, w2, rfl⟩
          | none =>
            rw [q] at h
            exact ⟨a, none, none, rfl, .inl ⟨vs, k, .inl e2, ey, (z2 q).symm⟩, h, rfl⟩
        · rename_i od vs kvs hs
          obtain ⟨a', e1, hF, e2, kv⟩ := rep.store j _ hs
          rw [ea] at e1
          cases e1
          obtain ⟨z1, z2⟩ := kv.val k
          cases q : findK kvs k with
          | some d =>
            obtain ⟨v, w1, w2⟩ := z1 d q
            rw [q] at h
            exact ⟨a, some v, some (.val d), rfl, .inl ⟨vs, k, .inr ⟨od, e2⟩, ey, w1.symm⟩, h, v, rfl, w2⟩
          | none =>
            rw [q] at h
            exact ⟨a, none, none, rfl, .inl ⟨vs, k, .inr ⟨od, e2⟩, ey, (z2 q).symm⟩, h, rfl⟩
        · exact h.elim
      · exact h.elim
    · exact h.elim
  · exact h.elim
def isDO (s : Sl) (e : En) : Prop := match s with
  | .obj j => (match e.st[j]? with
    | some (some (.m _)) => True
    | some (some (.mo _)) => True
    | _ => False)
  | _ => False
theorem isDO_ok {K : PySem.W.Frag} {R F : Hp} {A : List Addr} {σ : L2.St} {H : Hp} {e : En} {x : V} {s : Sl} (rep : Rep K R F A σ H e) (a0 : SlAt K F A x s) (h : isDO s e) : ∃ a, x = .ref a ∧ IsD H a ∧ ∃ kvs, H a = some (.dK kvs) := by
  unfold isDO at h
  split at h
  · rename_i j
    obtain ⟨a, ea, rfl⟩ := a0
    split at h
    · rename_i kvs hs
      obtain ⟨a', e1, hF, vs, e2, kv⟩ := rep.store j _ hs
      rw [ea] at e1
      cases e1
      exact ⟨a, rfl, .inl ⟨vs, .inl e2⟩, vs, e2⟩
    · rename_i kvs hs
      obtain ⟨a', e1, hF, vs, e2, kv⟩ := rep.store j _ hs
      rw [ea] at e1
      cases e1
      exact ⟨a, rfl, .inl ⟨vs, .inl e2⟩, vs, e2⟩
    · exact h.elim
  · exact h.elim
/-- d[k] -/
def vDIx (ta tb : VTE) : VTE := fun e Kp => ta e fun s0 e1 => tb e1 fun s1 e2 => dGetO s0 s1 e2 fun r => match r with
  | some s => Kp s e2
  | none => False
theorem ve_dix (hu : X.A.units + 190 < cLine) (ha : VE X a ta) (hb : VE X b tb) (hs : NoSl b := by exact fun _ _ => rfl) : VE X (.Subscript a b pos) (vDIx ta tb) := PE.imp (pe_dget (Nat.lt_of_le_of_lt (Nat.add_le_add_left (by decide) _) hu) ha hb hs) fun σ H Q h => by
  obtain ⟨R, F, A, e, Kp, rep, k, fin⟩ := h
  refine ⟨R, F, A, e, _, rep, k, fun s0 e1 x F1 A1 H1 k1 l1 p1 rep1 a1 => ⟨R, F1, A1, e1, _, rep1, k1, fun s1 e2 y F2 A2 H2 k2 l2 p2 rep2 a2 => ?_⟩⟩
  obtain ⟨p, r, s, rfl, g, w, z⟩ := dget_ok rep2 (a1.le l2 p2) a2 k2
  cases s with
  | none => exact w.elim
  | some s =>
    obtain ⟨v, rfl, av⟩ := z
    exact ⟨p, v, rfl, g, fin s e2 v F2 A2 H2 w (l1.trans l2) (p1.trans p2) rep2 av⟩
/-- d.get(k, x) -/
def vDGet2 (ta tb tc : VTE) : VTE := fun e Kp => ta e fun s0 e1 => isDO s0 e1 ∧ tb e1 fun s1 e2 => tc e2 fun s2 e3 => dGetO s0 s1 e3 fun r => Kp (r.getD s2) e3
theorem ve_dget2 (hu : X.A.units + 190 < cLine) (ha : VE X a ta) (hb : VE X b tb) (hc : VE X c tc) (m : M2 X a "get" apos b c cpos := by exact ⟨rfl, rfl, rfl, rfl⟩) : VE X (.Call (.Attribute a "get" apos) [b, c] [] cpos) (vDGet2 ta tb tc) := PE.imp (pe_dget2 (Nat.lt_of_le_of_lt (Nat.add_le_add_left (by decide) _) hu) ha hb hc m) fun σ H Q h => by
  obtain ⟨R, F, A, e, Kp, rep, k, fin⟩ := h
  refine ⟨R, F, A, e, _, rep, k, fun s0 e1 x F1 A1 H1 k1 l1 p1 rep1 a1 => ?_⟩
  obtain ⟨p, rfl, id, _⟩ := isDO_ok rep1 a1 k1.1
  refine ⟨p, rfl, id, R, F1, A1, e1, _, rep1, k1.2, fun s1 e2 y F2 A2 H2 k2 l2 p2 rep2 a2 => ⟨R, F2, A2, e2, _, rep2, k2, fun s2 e3 z F3 A3 H3 k3 l3 p3 rep3 a3 => ?_⟩⟩
  obtain ⟨p', r, s, e', g, w, z⟩ := dget_ok rep3 (a1.le (l2.trans l3) (p2.trans p3)) (a2.le l3 p3) k3
  cases e'
  refine ⟨r, g, ?_⟩
  have lz := (l1.trans l2).trans l3
  have pz := (p1.trans p2).trans p3
  cases s with
  | none =>
    subst z
    exact fin s2 e3 _ F3 A3 H3 w lz pz rep3 a3
  | some s =>
    obtain ⟨v, rfl, av⟩ := z
    exact fin s e3 v F3 A3 H3 w lz pz rep3 av
end
end Vl
namespace Vl
open PySem L2 PySem.Spec PyProof.Rows
theorem PC.imp {X : Cx} {op : CmpOp} {a b : Expr} {t t' : TE} (h : PC X op a b t) (f : ∀ σ H Q, t' σ H Q → t σ H Q) : PC X op a b t' := ⟨fun pins s σ H Q I q => h.run pins s σ H Q I (f σ H Q q)⟩
section
variable {X : Cx} {a b c d o i : Expr} {ta tb tc td to ti : VTE} {pos apos cpos : Pos}
theorem u1 (hu : X.A.units + 190 < cLine) : X.A.units + 1 < cLine := Nat.lt_of_le_of_lt (Nat.add_le_add_left (by decide) _) hu
/-- d[k] = v -/
def xgDSub (to ti : VTE) : VTG := fun s e Kp => to e fun so e1 => ti e1 fun si e2 => asD s e2 fun d e3 => match so with
  | .obj j => (match pk si e3 with
    | some dk => (match dKey dk with
      | some k => (match e3.st[j]? with
        | some (some (.m kvs)) => kvs.length < sizeLine ∧ Kp ⟨e3.sl, e3.st.set j (some (.m (putM kvs k d)))⟩
        | _ => False)
      | none => False)
    | none => False)
  | _ => False
theorem vg_dsub (ho : VE X o to) (hi : VE X i ti) (hp : ∀ {u w : TE}, PE X o u → PE X i w → PG X (.Subscript o i pos) (gSub u w rSetD)) : VG X (.Subscript o i pos) [] (xgDSub to ti) := PG.imp (hp ho hi) fun v σ H Q h => by
  obtain ⟨R, F, A, e, s, Kp, rep, a, k, fin⟩ := h
  refine ⟨R, F, A, e, _, rep, k, fun so e1 x F1 A1 H1 k1 l1 p1 rep1 a1 => ⟨R, F1, A1, e1, _, rep1, k1, fun si e2 y F2 A2 H2 k2 l2 p2 rep2 a2 => ?_⟩⟩
  obtain ⟨d, e3, F3, k3, rep3, l3, a3⟩ := rep2.asD (a.le (l1.trans l2) (p1.trans p2)) k2
  have a2' := a2.le l3 (pfx_refl A2)
  have a1' := a1.le (l2.trans l3) p2
  have lz := (l1.trans l2).trans l3
  have pz := p1.trans p2
  cases so with
  | val _ => exact False.elim k3
  | kn _ => exact False.elim k3
  | exc _ => exact False.elim k3
  | obj j =>
    replace k3 : (match pk si e3 with
      | some dk => (match dKey dk with
        | some k => (match e3.st[j]? with
          | some (some (.m kvs)) => kvs.length < sizeLine ∧ Kp ⟨e3.sl, e3.st.set j (some (.m (putM kvs k d)))⟩
          | _ => False)
        | none => False)
      | none => False) := k3
    split at k3
    · rename_i dk hk
      split at k3
      · rename_i k ek
        split at k3
        · rename_i kvs hd
          obtain ⟨b, eb, rfl⟩ := a1'
          obtain ⟨b', q1, q2, vs, q3, q4⟩ := rep3.store j _ hd
          rw [eb] at q1
          cases q1
          have ey := key_at (rep3.pk a2' hk) ek
          subst ey
          exact ⟨b, _, rfl, .inl ⟨vs, k, q3, rfl, by rw [q4.len]; exact k3.1, rfl⟩, fin _ _ _ _ _ k3.2 lz pz (Off.refl _ _) (rep3.writeO eb hd (o := .dK (putK vs k v)) (ob' := .m (putM kvs k d)) ⟨_, rfl, q4.put k a3⟩)⟩
        · exact k3.elim
      · exact k3.elim
    · exact k3.elim
end
end Vl
namespace Vl
open PySem L2 PySem.Spec PyProof.Rows
end Vl
namespace Vl
open PySem L2 PySem.Spec PyProof.Rows
theorem MoAt.anyK {A : List Addr} {kvs : List (Ky × Nat)} {vs : List (Ky × V)} (h : MoAt A kvs vs) (k : Ky) : (vs.any fun kv => decide (kv.1 = k)) = kvs.any fun kv => decide (kv.1 = k) := by
  induction h with
  | nil => rfl
  | cons _ _ ih => rw [List.any_cons, List.any_cons, ih]
theorem MoAt.put {A : List Addr} {kvs : List (Ky × Nat)} {vs : List (Ky × V)} (h : MoAt A kvs vs) (k : Ky) {j : Nat} {a : Addr} (g : A[j]? = some a) : MoAt A (putM kvs k j) (putK vs k (.ref a)) := by
  unfold putM putK
  rw [h.anyK k]
  split
  · rename_i q0
    clear q0
    induction h with
    | nil => exact .nil
    | @cons k' d' v' kvs' vs' h1 h2 ih =>
      rw [List.map_cons, List.map_cons]
      by_cases e : k' = k
      · simp only [e, if_true]
        exact .cons g ih
      · simp only [e, if_false]
        exact .cons h1 ih
  · exact h.app (.cons g .nil)
/-- the turns: n0 the dict's place -/
def cd (g : VTG) (tk tv : VTE) (chk : Option (En → Prop)) (vs : List Nat) (n0 : Nat) : List D → En → (En → Prop) → Prop
  | [], e, Kp => wth chk e (Kp e)
  | d :: ds, e, Kp => wth chk e (g (.val d) e fun e1 => tk e1 fun s1 e2 => tv e2 fun s2 e3 => match pk s1 e3 with
    | some dk => (match dKey dk with
      | some k => (match s2 with
        | .obj i => (match e3.st[n0]? with
          | some (some (.mo kvs)) => kvs.length < sizeLine ∧ cd g tk tv chk vs n0 ds (En.wipe ⟨e3.sl, e3.st.set n0 (some (.mo (putM kvs k i)))⟩ vs) Kp
          | _ => False)
        | _ => False)
      | none => False)
    | none => False)
end Vl
namespace Vl
open PySem L2 PySem.Spec PyProof.Rows
end Vl
namespace Vl
open PySem L2 PySem.Spec PyProof.Rows
end Vl
namespace Vl
open PySem L2 PySem.Spec PyProof.Rows
end Vl
namespace Vl
open PySem L2 PySem.Spec PyProof.Rows
end Vl
namespace Vl
open PySem L2 PySem.Spec PyProof.Rows
end Vl
namespace Vl
open PySem L2 PySem.Spec PyProof.Rows
end Vl
namespace Vl
open PySem L2 PySem.Spec PyProof.Rows
end Vl
namespace Vl
open PySem L2 PySem.Spec PyProof.Rows
section
variable {X : Cx} {a b c o : Expr} {ta tb to : VTE} {pos : Pos}
def rngD (hi : Int) (n : Nat) : List D := (List.range n).map fun i => PyData.int (hi + (i : Nat) * (-1))
def vRngD (t : VTA) : VTI := fun e Kp => t e fun ss e1 => match ss with
  | [s, u, v] => (match pk s e1, pk u e1, pk v e1 with
    | some (.int i), some (.int j), some (.int k) => k = -1 ∧ (-(2 ^ 62) ≤ i ∧ i < 2 ^ 62 ∧ -(2 ^ 62) ≤ j ∧ j < 2 ^ 62) ∧ Kp (rngD i (i - j).toNat) none e1
    | _, _, _ => False)
  | _ => False
def vFn (f : Addr) : VTE := fun e Kp => Kp (.exc f) e
end
/-- a call of a local name that holds one of some defs -/
def vCallL (i : Nat) (S : Addr → Option VSp) (own : Ob → En → KE → Prop) (t : VTA) : VTE := fun e Kp => match e.sl[i]? with
  | some (some (.exc f)) => (match S f with
    | some p => vN (opCallK own p) t e Kp
    | none => False)
  | _ => False
end Vl
namespace Vl
open PySem L2 L2H PySem.Spec PyProof.Rows
def vOdd (a : Addr) (i : Nat) (b : Bool) : VTE := fun e Kp => e.sl[i]? = some (some (.exc a)) ∧ Kp (.val (.bool b)) e
end Vl
namespace Vl
open PySem L2 PySem.Spec PyProof.Rows Builtin
end Vl
namespace Vl
open PySem L2 PySem.Spec PyProof.Rows
def IsFn (K : PySem.W.Frag) (f : Addr) : Prop := PySem.W.typeIn K (.ref f) = some (.type "function")
section
variable {X : Cx} {a b : Expr} {ta tb : VTE} {pos : Pos}
def vWays (i1 i2 : Nat) (fs : List Addr) (t : VTE) (u : VTS) : VTS := fun D e => i1 < e.sl.length ∧ t ⟨e.sl.set i1 none, e.st⟩ fun s e1 => match pk s e1 with
  | some (.int n) => 0 ≤ n ∧ ∃ f, fs[n.toNat]? = some f ∧ u D ⟨e1.sl.set i2 (some (.exc f)), e1.st⟩
  | _ => False
end
end Vl
namespace Vl
open PySem L2 PySem.Spec PyProof.Rows
structure Ways4 (P : Program) (w : World) (K : PySem.W.Frag) (mg : Str → Option Value) (base : Heap) (k : Nat) (x1 x2 x3 x4 : Str) (ps : List Str) (f1 f2 f3 f4 : Addr) (p : VSp) : Prop where
  m1 : mg x1 = some (.ref f1)
  m2 : mg x2 = some (.ref f2)
  m3 : mg x3 = some (.ref f3)
  m4 : mg x4 = some (.ref f4)
  isF : ∀ f ∈ [f1, f2, f3, f4], IsFn K f
  G : ∀ f ∈ [f1, f2, f3, f4], ∃ fd, FnOk P w K mg base CX0 k f fd ps (spV K p) ∧ PySem.W.keepIn K (.ref f) = true ∧ Binds K fd ps []
theorem Ways4.of {P : Program} {w : World} {K : PySem.W.Frag} {mg : Str → Option Value} {base : Heap} {k : Nat} {x1 x2 x3 x4 : Str} {ps : List Str} {p : VSp} (G1 : VFn P w K mg base k x1 ps p) (G2 : VFn P w K mg base k x2 ps p) (G3 : VFn P w K mg base k x3 ps p) (G4 : VFn P w K mg base k x4 ps p)
    (T1 : ∀ f, mg x1 = some (.ref f) → IsFn K f) (T2 : ∀ f, mg x2 = some (.ref f) → IsFn K f) (T3 : ∀ f, mg x3 = some (.ref f) → IsFn K f) (T4 : ∀ f, mg x4 = some (.ref f) → IsFn K f) :
    ∃ f1 f2 f3 f4, Ways4 P w K mg base k x1 x2 x3 x4 ps f1 f2 f3 f4 p := by
  obtain ⟨f1, d1, a1, b1, c1, e1⟩ := G1.ex
  obtain ⟨f2, d2, a2, b2, c2, e2⟩ := G2.ex
  obtain ⟨f3, d3, a3, b3, c3, e3⟩ := G3.ex
  obtain ⟨f4, d4, a4, b4, c4, e4⟩ := G4.ex
  refine ⟨f1, f2, f3, f4, e1, e2, e3, e4, fun f hf => ?_, fun f hf => ?_⟩
  · simp only [List.mem_cons, List.not_mem_nil, or_false] at hf
    rcases hf with rfl | rfl | rfl | rfl
    · exact T1 _ e1
    · exact T2 _ e2
    · exact T3 _ e3
    · exact T4 _ e4
  · simp only [List.mem_cons, List.not_mem_nil, or_false] at hf
    rcases hf with rfl | rfl | rfl | rfl
    · exact ⟨d1, a1, b1, c1⟩
    · exact ⟨d2, a2, b2, c2⟩
    · exact ⟨d3, a3, b3, c3⟩
    · exact ⟨d4, a4, b4, c4⟩
def wayS (fs : List Addr) (p : VSp) (f : Addr) : Option VSp := if f ∈ fs then some p else none
theorem Ways4.call {P : Program} {w : World} {K : PySem.W.Frag} {mg : Str → Option Value} {base : Heap} {k : Nat} {x1 x2 x3 x4 : Str} {ps : List Str} {p : VSp} {f1 f2 f3 f4 : Addr} (W : Ways4 P w K mg base k x1 x2 x3 x4 ps f1 f2 f3 f4 p) :
    ∀ f q, wayS [f1, f2, f3, f4] p f = some q → ∃ fd, FnOk P w K mg base CX0 k f fd ps (spV K q) ∧ PySem.W.keepIn K (.ref f) = true ∧ Binds K fd ps [] := fun f q h => by
  unfold wayS at h
  split at h
  · cases h
    exact W.G f (by assumption)
  · cases h
end Vl
namespace Vl
open PySem L2 PySem.Spec PyProof.Rows
def mAll (ls : List (Ky × D)) (ks : List (Ky × D)) : Bool := ks.all fun p => match findK ls p.1 with
  | some d => PyData.eqv p.2 d
  | none => false
def mEq (ks ls : List (Ky × D)) : Bool := ks.length == ls.length && mAll ls ks
def shpM (ks : List (Ky × D)) : Prop := ∀ p ∈ ks, PyData.canLay0 p.2 = true ∧ p.2.depth ≤ 100
section
variable {X : Cx} {F : Hp}
theorem findK_memM {ls : List (Ky × D)} {k : Ky} {d : D} (h : findK ls k = some d) : ∃ p ∈ ls, p.2 = d := by
  unfold findK at h
  obtain ⟨p, h1, h2⟩ := Option.map_eq_some_iff.mp h
  exact ⟨p, List.mem_of_find?_eq_some h1, h2⟩
theorem hits_data {pins : List (Addr × Obj)} {σ : L2.St} {H : Hp} {s : Shared} (hu : X.A.units + 190 < cLine) (I : Inv X pins σ H s) (hF : Le F H) {ls : List (Ky × D)} {lv : List (Ky × V)} {lu : List (Ky × Value)} (hl : KvAt X.K F ls lv) (rl : KV lv lu) (sl : shpM ls) :
    ∀ {ks : List (Ky × D)} {kv : List (Ky × V)} {ku : List (Ky × Value)}, KvAt X.K F ks kv → KV kv ku → shpM ks → PySem.W.KeqHits X.A.in1 s lu ku (mAll ls ks) := by
  intro ks kv ku hk
  induction hk generalizing ku with
  | nil =>
    intro r _
    cases r
    exact .nil
  | @cons k d v ks kv ha hk ih =>
    intro r sk
    cases r with
    | @cons _ q _ us r1 r2 =>
      obtain ⟨k', u⟩ := q
      obtain ⟨e1, e2⟩ := r1
      cases (show k = k' from e1)
      have rest := ih r2 fun p hp => sk p (List.mem_cons_of_mem _ hp)
      obtain ⟨g1, g2⟩ := hl.val k
      have rv := KV.val rl k
      have em : mAll ls ((k, d) :: ks) = ((match findK ls k with | some d' => PyData.eqv d d' | none => false) && mAll ls ks) := by
        unfold mAll
        rw [List.all_cons]
      rw [em]
      cases hf : findK ls k with
      | none =>
        have hn := g2 hf
        rw [hn] at rv
        cases hv : valueAt lu k with
        | none =>
          simp only [Bool.false_and]
          exact .miss hv
        | some y => rw [hv] at rv; cases rv
      | some d' =>
        obtain ⟨v', hv', at'⟩ := g1 d' hf
        rw [hv'] at rv
        cases hv : valueAt lu k with
        | none => rw [hv] at rv; cases rv
        | some y =>
          rw [hv] at rv
          have ry : RelV v' y := rv
          have s1 := sk (k, d) List.mem_cons_self
          obtain ⟨p, hp, hp2⟩ := findK_memM hf
          have s2 : PyData.canLay0 d' = true ∧ d'.depth ≤ 100 := hp2 ▸ sl p hp
          obtain ⟨l1, l2⟩ := s1
          obtain ⟨l3, l4⟩ := s2
          obtain ⟨as, q1⟩ := Dp.reads I d v u (At.dp hF d v l1 ha) e2
          obtain ⟨bs, q2⟩ := Dp.reads I d' v' y (At.dp hF d' v' l3 at') ry
          refine .hit hv (SeqAt.eqAt_reads d d' X.A.in1 s u y as bs q1 q2 l1 l3 ?_) rest
          show X.A.units + 1 + min d.depth d'.depth < cLine
          have := Nat.min_le_left d.depth d'.depth
          omega
def rNeM (K : PySem.W.Frag) (neg : Bool) : R2 := fun x y H Q => ∃ (F : Hp) (a b : Addr) (ks ls : List (Ky × D)) (kv lv : List (Ky × V)), x = .ref a ∧ y = .ref b ∧ Le F H ∧ H a = some (.dK kv) ∧ H b = some (.dK lv) ∧ KvAt K F ks kv ∧ KvAt K F ls lv ∧ shpM ks ∧ shpM ls ∧ Q (.bl (if neg then !mEq ks ls else mEq ks ls)) H
theorem op_neM (hu : X.A.units + 190 < cLine) : OpR X (compareOp .NotEq) (rNeM X.K true) := by
  intro pins s σ H x y v u Q I rx ry h
  obtain ⟨F, a, b, ks, ls, kv, lv, rfl, rfl, hF, ea, eb, ha, hb, sk, sl, q⟩ := h
  obtain rfl : v = Value.ref a := rx
  obtain rfl : u = Value.ref b := ry
  obtain ⟨_, ya, va, ra, da⟩ := (show ObjOk X.prog X.w H s.heap a (.dK kv) from I.hok a _ ea)
  obtain ⟨_, yb, vb, rb, db⟩ := (show ObjOk X.prog X.w H s.heap b (.dK lv) from I.hok b _ eb)
  have la : va.length = ks.length := by rw [← ra.length, ha.len]
  have lb : vb.length = ls.length := by rw [← rb.length, hb.len]
  exact PySem.W.keq_ne (knd := mixKind X.prog X.w) (r := mAll ls ks) ya yb da db (by omega) (fun _ => hits_data hu I hF hb rb sl ha ra sk) (fin_bl I q (by rw [la, lb]; rfl))
def opNeM (neg : Bool) (s1 s2 : Sl) (e : En) (Kp : KE) : Prop := match s1, s2 with
  | .obj i, .obj j => (match e.st[i]?, e.st[j]? with
    | some (some (.m ks)), some (some (.m ls)) => shpM ks ∧ shpM ls ∧ Kp (.val (.bool (if neg then !mEq ks ls else mEq ks ls))) e
    | _, _ => False)
  | _, _ => False
theorem p_neM {K : PySem.W.Frag} {neg : Bool} : Prim2 K (rNeM K neg) (opNeM neg) := by
  intro R F A σ H e x y s1 s2 Kp Q rep a1 a2 ho fin
  unfold opNeM at ho
  split at ho
  · rename_i i j
    split at ho
    · rename_i ks ls h1 h2
      obtain ⟨a, e1, rfl⟩ := a1
      obtain ⟨b, e2, rfl⟩ := a2
      obtain ⟨a', f1, f2, f3⟩ := rep.store i _ h1
      obtain ⟨b', g1, g2, g3⟩ := rep.store j _ h2
      rw [e1] at f1
      cases f1
      rw [e2] at g1
      cases g1
      obtain ⟨kv, k1, k2⟩ := f3
      obtain ⟨lv, l1, l2⟩ := g3
      exact ⟨F, a, b, ks, ls, kv, lv, rfl, rfl, rep.sub, k1, l1, k2, l2, ho.1, ho.2.1, fin.val rep ho.2.2 (.bl _)⟩
    · exact ho.elim
  · exact ho.elim
variable {a b : Expr} {ta tb : VTE} {pos : Pos}
theorem vt_neM (hu : X.A.units + 190 < cLine) (ha : VE X a ta) (hb : VE X b tb) (hm : behindInMarks .NotEq b = false := by first | rfl | exact nomark _) : VT X (.Compare a [.NotEq] [b] pos) (vTest (v2 (opNeM true) ta tb)) := vt_cmp p_neM (op_neM hu) ha hb hm
end
end Vl
namespace Vl
open PySem L2 PySem.Spec PyProof.Rows
def vClrM (ta : VTE) : VTE := fun e Kp => ta e fun s e1 => match s with
  | .obj j => (match e1.st[j]? with
    | some (some (.m _)) => Kp (.val .none) ⟨e1.sl, e1.st.set j (some (.m []))⟩
    | _ => False)
  | _ => False
section
variable {X : Cx} {o : Expr} {to : VTE} {apos cpos : Pos}
theorem ve_clrM (ho : VE X o to) (hbase : attributeBase o "clear" X.env (eval o X.env) = eval o X.env := by rfl) (hline : (apos.endLine == cpos.line) = true := by rfl) :
    VE X (.Call (.Attribute o "clear" apos) [] [] cpos) (vClrM to) := PE.imp (pe_dclear ho hbase hline) fun σ H Q h => by
  obtain ⟨R, F, A, e, Kp, rep, ht, fin⟩ := h
  refine ⟨R, F, A, e, _, rep, ht, fun s e1 x F1 A1 H1 k1 f1 p1 rep1 a1 => ?_⟩
  split at k1
  · rename_i j
    split at k1
    · rename_i kvs hj
      obtain ⟨a, ea, rfl⟩ := a1
      obtain ⟨a', e2, e3, vs, e4, e5⟩ := rep1.store j _ hj
      rw [ea] at e2
      cases e2
      refine ⟨?_, a, vs, rfl, rfl, e4, ?_⟩
      · exact .inr (.inr (.inl ⟨rfl, .inl ⟨vs, e4⟩⟩))
      · exact fin (.val .none) _ .non F1 A1 _ k1 f1 p1 (rep1.writeO ea hj (ob' := .m []) ⟨[], rfl, .nil⟩) .non
    · exact k1.elim
  · exact k1.elim
end
end Vl
namespace Vl
open PySem L2 PySem.Spec PyProof.Rows
def vIsM (T : String) (ta : VTE) : VTE := fun e Kp => ta e fun s e1 => match s with
  | .obj j => (match e1.st[j]? with
    | some (some (.m _)) => ∃ b, kitB "dict" T = some b ∧ Kp (.val (.bool b)) e1
    | _ => False)
  | _ => False
section
variable {X : Cx} {a : Expr} {ta : VTE} {pos : Pos}
theorem ve_isM {T : String} {x : Str} {p p2 : Pos} (hg : Gl X "isinstance") (hm : X.mg "isinstance" = none) (hgT : Gl X x) (hmT : X.mg x = none) (hv : bootBuiltins x = some (.type T)) (ha : VE X a ta) (hn : x ≠ "__name__" := by decide) (hdb : (x == ("__debug__" : Str)) = false := by decide)
    (hs : starEach [a, .Name x p2] X.env = (false, eval a X.env) :: starEach [.Name x p2] X.env := by rfl) (hs2 : starEach [.Name x p2] X.env = (false, eval (.Name x p2) X.env) :: starEach [] X.env := by rfl) (hpl : (backTo pos (starEach [.Name x p2] X.env)).any (·.1) = false := by rfl) :
    VE X (.Call (.Name "isinstance" p) [a, .Name x p2] [] pos) (vIsM T ta) :=
  PE.imp (pe_callB call_isi hg hm (by decide +kernel) (pa_cons ha (pa_cons (pe_bltn (v := .ty T) (u := .type T) hgT hmT hv rfl hn hdb) pa_nil hs2) hs) (by decide) (by decide) hs hpl) fun σ H Q q => by
    obtain ⟨R, F, A, e, Kp, rep, ht, fin⟩ := q
    refine ⟨R, F, A, e, _, rep, ht, fun s1 e1 x F1 A1 H1 k1 f1 p1 rep1 a1 => ?_⟩
    split at k1
    · rename_i j
      split at k1
      · rename_i kvs hj
        obtain ⟨b, h1, h2⟩ := k1
        obtain ⟨ad, ea, rfl⟩ := a1
        obtain ⟨a', e2, e3, vs, e4, e5⟩ := rep1.store j _ hj
        rw [ea] at e2
        cases e2
        exact ⟨.ref ad, .ty T, .type "dict", .type T, b, rfl, .ty T, .base (.dK e4), kit_ty h1, (fin.tr f1 p1).val rep1 h2 (.bl b)⟩
      · exact k1.elim
    · exact k1.elim
end
end Vl
namespace Kf
open PySem L2 Vl PySem.Spec PyProof.Rows
/-- a row of numbers that is drawn from: what is left of the cell, and a number -/
def PoolK (n : Int) : Prop := 0 ≤ n ∧ n < 2147483647
def pTake : VSp := fun ss st Kp => match ss, st with
  | [.obj 0, .val (.int m)], [.l [.int c, .int n]] => PoolK n ∧ 0 < m ∧ m < 1329227995784915872903807060280344576 ∧ ∀ r c' n' : Int, 0 ≤ r → r < m → PoolK n' → Kp (.val (.int r)) [.l [.int c', .int n']]
  | _, _ => False
def pPool : VSp := fun ss st Kp => ∃ (ns : List Int) (k : Nat), ss = [.kn (ns.map .int), .val (.int (k : Int))] ∧ st = [] ∧ ns.length ≤ 63 ∧ k ≤ 63 ∧
  ∀ c n : Int, PoolK n → Kp (.obj 0) [.l [.int c, .int n]]
theorem nm_nat {x m : Int} (hm : 0 < m) : 0 ≤ x.fmod m ∧ x.fmod m < m := ⟨Int.fmod_nonneg_of_pos x hm, Int.fmod_lt_of_pos x hm⟩
theorem at_any {α : Type} {xs : List α} {r : Int} (h0 : 0 ≤ r) (h1 : r < xs.length) : ∃ x, atI xs r = some x ∧ x ∈ xs := by
  obtain ⟨j, rfl⟩ : ∃ j : Nat, r = j := ⟨r.toNat, by omega⟩
  have hj : j < xs.length := by omega
  exact ⟨xs[j], atI_nat (by simp [hj]), List.getElem_mem hj⟩
inductive Kd where
  | mark (m : Str)
  | one
  | to (a b : Kd)
  | both (a b : Kd)
deriving DecidableEq
def Kd.enc : Kd → D
  | .mark m => .tuple [.str "mark", .str m]
  | .one => .tuple [.str "one"]
  | .to a b => .tuple [.str "to", a.enc, b.enc]
  | .both a b => .tuple [.str "both", a.enc, b.enc]
def Kd.leaves : Kd → Nat
  | .mark _ => 1
  | .one => 1
  | .to a b => a.leaves + b.leaves
  | .both a b => a.leaves + b.leaves
def Kd.over (ms : List Str) : Kd → Prop
  | .mark m => m ∈ ms
  | .one => True
  | .to a b => a.over ms ∧ b.over ms
  | .both a b => a.over ms ∧ b.over ms
theorem Kd.leaves_pos : ∀ k : Kd, 1 ≤ k.leaves
  | .mark _ => Nat.le_refl _
  | .one => Nat.le_refl _
  | .to a b => by
    have := a.leaves_pos
    simp only [Kd.leaves]
    omega
  | .both a b => by
    have := a.leaves_pos
    simp only [Kd.leaves]
    omega
def pKind (N : Nat) : VSp := fun ss st Kp => match ss, st with
  | [.obj 0, .val (.int l), .val (.list ds)], [.l [.int c, .int n]] => PoolK n ∧ 1 ≤ l ∧ l ≤ N ∧ l < 1000 ∧ ∃ ms : List Str, ds = ms.map .str ∧ 0 < ms.length ∧ ms.length < 1000 ∧
    ∀ (k : Kd) (c' n' : Int), (k.leaves : Int) = l → k.over ms → PoolK n' → Kp (.val k.enc) [.l [.int c', .int n']]
  | _, _ => False
theorem Kd.eqv_iff (a b : Kd) : PyData.eqv a.enc b.enc = true ↔ a = b := by
  induction a generalizing b with
  | mark m =>
    cases b <;> simp only [Kd.enc, eqv_tup, eqvAll_cons, eqvAll_nil, eqvAll_nc, eqvAll_cn, eqv_str, Bool.and_eq_true, decide_eq_true_eq, reduceCtorEq, Kd.mark.injEq, Bool.false_eq_true, and_false, and_true, iff_false, false_and]
    · exact ⟨fun h => h.2, fun h => ⟨by decide, h⟩⟩
  | one =>
    cases b <;> simp only [Kd.enc, eqv_tup, eqvAll_cons, eqvAll_nil, eqvAll_nc, eqvAll_cn, eqv_str, Bool.and_eq_true, decide_eq_true_eq, reduceCtorEq, Bool.false_eq_true, and_false, and_true]
  | to x y ihx ihy =>
    cases b <;> simp only [Kd.enc, eqv_tup, eqvAll_cons, eqvAll_nil, eqvAll_nc, eqvAll_cn, eqv_str, Bool.and_eq_true, decide_eq_true_eq, reduceCtorEq, Kd.to.injEq, Bool.false_eq_true, and_false, and_true, ihx, ihy, iff_false, false_and]
    · exact ⟨fun h => h.2, fun h => ⟨by decide, h⟩⟩
    · exact fun h => absurd h.1 (by decide)
  | both x y ihx ihy =>
    cases b <;> simp only [Kd.enc, eqv_tup, eqvAll_cons, eqvAll_nil, eqvAll_nc, eqvAll_cn, eqv_str, Bool.and_eq_true, decide_eq_true_eq, reduceCtorEq, Kd.both.injEq, Bool.false_eq_true, and_false, and_true, ihx, ihy, iff_false, false_and]
    · exact fun h => absurd h.1 (by decide)
    · exact ⟨fun h => h.2, fun h => ⟨by decide, h⟩⟩
theorem Kd.eqv [DecidableEq Kd] (a b : Kd) : PyData.eqv a.enc b.enc = decide (a = b) := Bool.eq_iff_iff.mpr (by rw [Kd.eqv_iff]; simp)
def Kd.deep : Kd → Nat
  | .mark _ => 0
  | .one => 0
  | .to a b => max a.deep b.deep + 1
  | .both a b => max a.deep b.deep + 1
theorem Kd.deep_lt : ∀ k : Kd, k.deep < k.leaves
  | .mark _ => Nat.lt_succ_self _
  | .one => Nat.lt_succ_self _
  | .to a b => by
    have h1 := a.deep_lt
    have h2 := b.deep_lt
    simp only [Kd.deep, Kd.leaves]
    omega
  | .both a b => by
    have h1 := a.deep_lt
    have h2 := b.deep_lt
    simp only [Kd.deep, Kd.leaves]
    omega
theorem Kd.depth_enc : ∀ k : Kd, k.enc.depth = k.deep + 1
  | .mark m => by simp only [Kd.enc, depth_tup, depthAll_cons, depthAll_nil, depth_str, Kd.deep]; rfl
  | .one => by simp only [Kd.enc, depth_tup, depthAll_cons, depthAll_nil, depth_str, Kd.deep]; rfl
  | .to a b => by
    simp only [Kd.enc, depth_tup, depthAll_cons, depthAll_nil, depth_str, Kd.deep, a.depth_enc, b.depth_enc]
    omega
  | .both a b => by
    simp only [Kd.enc, depth_tup, depthAll_cons, depthAll_nil, depth_str, Kd.deep, a.depth_enc, b.depth_enc]
    omega
theorem Kd.can_enc {ms : List Str} (hm : ∀ m ∈ ms, PyData.strOk m = true) : ∀ k : Kd, k.over ms → k.enc.canLay0 = true
  | .mark m, h => by
    simp only [Kd.enc, can_tup, canAll_cons, canAll_nil, can_str, Bool.and_eq_true]
    exact ⟨by decide +kernel, hm m h, trivial⟩
  | .one, h => by
    simp only [Kd.enc, can_tup, canAll_cons, canAll_nil, can_str, Bool.and_eq_true]
    exact ⟨by decide +kernel, trivial⟩
  | .to a b, h => by
    simp only [Kd.enc, can_tup, canAll_cons, canAll_nil, can_str, Bool.and_eq_true]
    exact ⟨by decide +kernel, a.can_enc hm h.1, b.can_enc hm h.2, trivial⟩
  | .both a b, h => by
    simp only [Kd.enc, can_tup, canAll_cons, canAll_nil, can_str, Bool.and_eq_true]
    exact ⟨by decide +kernel, a.can_enc hm h.1, b.can_enc hm h.2, trivial⟩
theorem Kd.shp {ms : List Str} (hm : ∀ m ∈ ms, PyData.strOk m = true) {k : Kd} (h : k.over ms) (hl : k.leaves ≤ 180) : Vl.shp k.enc = true := by
  unfold Vl.shp
  have := k.deep_lt
  rw [k.can_enc hm h, k.depth_enc, decide_eq_true (by omega)]
  rfl
inductive Pg where
  | name (x : Str)
  | take (x : Str) (k : Kd) (p : Pg)
  | give (p q : Pg)
  | pair (p q : Pg)
  | first (p : Pg)
  | second (p : Pg)
  | thing
def Pg.enc : Pg → D
  | .name x => .tuple [.str "name", .str x]
  | .take x k p => .tuple [.str "take", .str x, k.enc, p.enc]
  | .give p q => .tuple [.str "give", p.enc, q.enc]
  | .pair p q => .tuple [.str "pair", p.enc, q.enc]
  | .first p => .tuple [.str "first", p.enc]
  | .second p => .tuple [.str "second", p.enc]
  | .thing => .tuple [.str "thing"]
def Pg.size : Pg → Nat
  | .name _ => 1
  | .take _ _ p => p.size + 1
  | .give p q => p.size + q.size + 1
  | .pair p q => p.size + q.size + 1
  | .first p => p.size + 1
  | .second p => p.size + 1
  | .thing => 1
def Pg.deep : Pg → Nat
  | .name _ => 0
  | .take _ _ p => p.deep + 1
  | .give p q => max p.deep q.deep + 1
  | .pair p q => max p.deep q.deep + 1
  | .first p => p.deep + 1
  | .second p => p.deep + 1
  | .thing => 0
/-- a row of names with their kinds, the innermost last -/
def encB (r : Str × Kd) : D := .tuple [.str r.1, r.2.enc]
def look : List (Str × Kd) → Str → Option Kd
  | [], _ => none
  | (y, k) :: r, x => match look r x with
    | some l => some l
    | none => if y = x then some k else none
theorem look_app {r : List (Str × Kd)} {x y : Str} {k : Kd} : look (r ++ [(y, k)]) x = if y = x then some k else look r x := by
  induction r with
  | nil =>
    simp only [List.nil_append, look]
  | cons p r ih =>
    obtain ⟨z, l⟩ := p
    simp only [List.cons_append, look, ih]
    by_cases h : y = x <;> simp [h]
end Kf
namespace Kf
open PySem L2 Vl PySem.Spec PyProof.Rows
def t_Lpool_1 : VTS := (vSet 2 (v2 xIx (vVar 0) (vVar 1)))
def t_Lpool_2 : VTS := (vSet 2 (vC (.int 0)))
def t_Lpool_3 : VTS := (vRet (vN opLstO (vCons (vVar 2) (vCons (vVar 3) vNil))))
def t_Lpool_4 : VTS := vSeq (vIfS (vTest (v2 opLt (vVar 2) (v2 opPow (vC (.int 10)) (vC (.int 18))))) (t_Lpool_2) vNext) (t_Lpool_3)
def t_Lpool_5 : VTS := vSeq (vSet 3 (v2 opMod (v2 opPow (v2 opAdd (v2 opAdd (v2 opMod (vVar 2) (vC (.int 2147483629))) (v2 opMul2 (v2 opMul2 (vC (.int 104729)) (vVar 1)) (vVar 1))) (vC (.int 11))) (vC (.int 3))) (vC (.int 2147483647)))) (t_Lpool_4)
def t_Lpool_6 : VTS := vSeq (vIfS (vTest (v2 opLt (vVar 1) (vN opLen (vCons (vVar 0) vNil)))) (t_Lpool_1) vNext) (t_Lpool_5)
def t_Lpool_7 : VTS := vSeq (vSet 2 (vC (.int 0))) (t_Lpool_6)
def t_Lpool : VTS := (t_Lpool_7)
def t_Ltake_1 : VTS := (vRet (vVar 2))
def t_Ltake_2 : VTS := vSeq (vAsg (v2 opDiv (v2 xIx (vVar 0) (vC (.int 0))) (vVar 1)) (xgSub (vVar 0) (vC (.int 0)))) (t_Ltake_1)
def t_Ltake_3 : VTS := vSeq (vSet 2 (v2 opMod (v2 xIx (vVar 0) (vC (.int 0))) (vVar 1))) (t_Ltake_2)
def t_Ltake_4 : VTS := (vRet (v2 opMod (v2 opDiv (v2 opMod (v2 opMul2 (v2 xIx (vVar 0) (vC (.int 1))) (v2 xIx (vVar 0) (vC (.int 1)))) (vC (.int 2147483629))) (vC (.int 64))) (vVar 1)))
def t_Ltake_5 : VTS := vSeq (vAsg (v2 opMod (v2 opAdd (v2 opMul2 (v2 xIx (vVar 0) (vC (.int 1))) (vC (.int 48271))) (vC (.int 11))) (vC (.int 2147483647))) (xgSub (vVar 0) (vC (.int 1)))) (t_Ltake_4)
def t_Ltake_6 : VTS := vSeq (vIfS (vTest (v2 opGt (v2 xIx (vVar 0) (vC (.int 0))) (vC (.int 0)))) (t_Ltake_3) vNext) (t_Ltake_5)
def t_Ltake : VTS := (t_Ltake_6)
end Kf
namespace Kf
open PySem L2 Vl PySem.Spec PyProof.Rows
theorem big {n : Nat} (h : n ≤ 16000000) : n ≤ sizeLine := Nat.le_trans h (by decide)
theorem bigl {n : Nat} (h : n < 16000000) : n < sizeLine := Nat.lt_of_lt_of_le h (by decide)
theorem i_take {ss st Kp} (h : pTake ss st Kp) : ∃ c n m : Int, ss = [.obj 0, .val (.int m)] ∧ st = [.l [.int c, .int n]] ∧ PoolK n ∧ 0 < m ∧ m < 1329227995784915872903807060280344576 ∧ ∀ r c' n' : Int, 0 ≤ r → r < m → PoolK n' → Kp (.val (.int r)) [.l [.int c', .int n']] := by
  unfold pTake at h
  split at h
  · exact ⟨_, _, _, rfl, rfl, h⟩
  · exact h.elim
theorem r_take {ss cs Kp} (h : pTake ss cs Kp) : t_Ltake (dV cs.length Kp) ⟨startV 3 ss, cs.map some⟩ := by
  obtain ⟨c, n, m, rfl, rfl, ⟨n0, n1⟩, m0, m1, k⟩ := i_take h
  have q1 := nm_nat (x := n * 48271 + 11) (m := 2147483647) (by decide)
  simp only [t_Ltake, t_Ltake_6, flatD, List.any_cons, List.any_nil, eqv_str, eqv_int, eqv_ti, eqv_it, eqv_st, eqv_ts, cut1, Bool.or_false, Bool.or_true, Bool.and_self, Bool.and_true, Bool.and_false, Bool.false_or, Bool.true_or, and_self, ofs_inj, ofs_app, ofs_len, String.reduceEq, String.reduceNe, String.reduceAppend, decide_true, decide_false, Bool.not_true, Bool.not_false, sz0, sz1, sz2, sz3, sz4, sz5, sz6, sz7, sz8, sz9, sz10, sz11, sz12, sz13, sz14, sz15, sz16, sz17, sz18, sz19, sz20, sz21, sz22, sz23, sz24, sz25, cpow1018, true_and, and_true, Nat.reduceAdd, Nat.reduceLT, Nat.reduceSub, Int.reduceNe, Int.reduceEq, Int.reduceLT, Int.reduceLE, Int.reduceToNat, ne_eq, not_false_eq_true, List.length_map, Nat.lt_irrefl, dV_nx, dV_rt, at0, at1, at2, at3, ix20, ix21, vSeq, vIfS, vTest, vTruth, truth, v2, v1, vN, vCons, vNil, vStar, vVar, vC, xIx, Vl.opI0, Vl.opI, pk, vSet, vAug, vAsg, xgSub, vRet, vRetN, vNext, vDrop, vBreak, vCont, asD, asDs, opMod, opDiv, opMul2, Vl.opAdd, Vl.opAddO, opSub, opPow, opLt, Vl.opLe, opGt, Vl.opGe, xEq, okEq_str, okEq_int, xIn, okIn, inD, xIsN, isNone_n, isNone_t, isNone_l, isNone_i, isNone_s, isMo, mob, pkm, gModI, gDivI, gSubI, gMulI, gPowI, gGt, gLt, gLe, gGe, vNotT, vAndT, vOrT, vAndV, vOrV, opNot, opNotG, vIfE, opTup, opLst, opLstO, Vl.opLen, Vl.opInt, opList, opListO, opTuple, opII, gMax, gMin, vM, vM0, isT, xPop, Vl.opAppend, opExtend, opJoin, vgName, vgTup, vgCons, vgNil, kOpt_some, kOpn_some, kOps_some, Vl.opSum, Vl.opInsert, Vl.opIndex, opDivmod, vSl, vPart, vNoPart, opSl, opSlO, opRev, opCallK, ownD, ownO, objs, renum, uniq, getS, putS, vCall0, vFor, vForW, En.wk, vSeqI, vTupI, vRng1, vRng2, vEnum, vZip, chkOf, vLcK, vYes, finD, finO, En.wipe, wipeE, En.trim, trimS, dropNone, clr_n, clr_v, clr_k, clr_o, wth, Vl.ret, takeS, startV,  List.map_cons, List.map_nil, List.length_cons, List.length_nil, List.cons_append, List.nil_append, List.replicate, List.getElem?_cons_succ, List.getElem?_cons_zero, List.getElem?_nil, List.set_cons_succ, List.set_cons_zero, List.set_nil, List.all_nil, List.all_cons, Bool.true_and, Option.map_some, Option.map_none, if_true, if_false, decide_eq_true_eq, Bool.false_eq_true, List.take_succ_cons, List.take_zero, List.take_nil, List.drop_succ_cons, List.drop_zero, List.drop_nil, reduceIte, reduceCtorEq]
  split
  · simp only [t_Ltake_1, t_Ltake_2, t_Ltake_3, t_Ltake_4, t_Ltake_5, t_Ltake_6, t_Ltake, flatD, List.any_cons, List.any_nil, eqv_str, eqv_int, eqv_ti, eqv_it, eqv_st, eqv_ts, cut1, Bool.or_false, Bool.or_true, Bool.and_self, Bool.and_true, Bool.and_false, Bool.false_or, Bool.true_or, and_self, ofs_inj, ofs_app, ofs_len, String.reduceEq, String.reduceNe, String.reduceAppend, decide_true, decide_false, Bool.not_true, Bool.not_false, sz0, sz1, sz2, sz3, sz4, sz5, sz6, sz7, sz8, sz9, sz10, sz11, sz12, sz13, sz14, sz15, sz16, sz17, sz18, sz19, sz20, sz21, sz22, sz23, sz24, sz25, cpow1018, true_and, and_true, Nat.reduceAdd, Nat.reduceLT, Nat.reduceSub, Int.reduceNe, Int.reduceEq, Int.reduceLT, Int.reduceLE, Int.reduceToNat, ne_eq, not_false_eq_true, List.length_map, Nat.lt_irrefl, dV_nx, dV_rt, at0, at1, at2, at3, ix20, ix21, vSeq, vIfS, vTest, vTruth, truth, v2, v1, vN, vCons, vNil, vStar, vVar, vC, xIx, Vl.opI0, Vl.opI, pk, vSet, vAug, vAsg, xgSub, vRet, vRetN, vNext, vDrop, vBreak, vCont, asD, asDs, opMod, opDiv, opMul2, Vl.opAdd, Vl.opAddO, opSub, opPow, opLt, Vl.opLe, opGt, Vl.opGe, xEq, okEq_str, okEq_int, xIn, okIn, inD, xIsN, isNone_n, isNone_t, isNone_l, isNone_i, isNone_s, isMo, mob, pkm, gModI, gDivI, gSubI, gMulI, gPowI, gGt, gLt, gLe, gGe, vNotT, vAndT, vOrT, vAndV, vOrV, opNot, opNotG, vIfE, opTup, opLst, opLstO, Vl.opLen, Vl.opInt, opList, opListO, opTuple, opII, gMax, gMin, vM, vM0, isT, xPop, Vl.opAppend, opExtend, opJoin, vgName, vgTup, vgCons, vgNil, kOpt_some, kOpn_some, kOps_some, Vl.opSum, Vl.opInsert, Vl.opIndex, opDivmod, vSl, vPart, vNoPart, opSl, opSlO, opRev, opCallK, ownD, ownO, objs, renum, uniq, getS, putS, vCall0, vFor, vForW, En.wk, vSeqI, vTupI, vRng1, vRng2, vEnum, vZip, chkOf, vLcK, vYes, finD, finO, En.wipe, wipeE, En.trim, trimS, dropNone, clr_n, clr_v, clr_k, clr_o, wth, Vl.ret, takeS, startV,  List.map_cons, List.map_nil, List.length_cons, List.length_nil, List.cons_append, List.nil_append, List.replicate, List.getElem?_cons_succ, List.getElem?_cons_zero, List.getElem?_nil, List.set_cons_succ, List.set_cons_zero, List.set_nil, List.all_nil, List.all_cons, Bool.true_and, Option.map_some, Option.map_none, if_true, if_false, decide_eq_true_eq, Bool.false_eq_true, List.take_succ_cons, List.take_zero, List.take_nil, List.drop_succ_cons, List.drop_zero, List.drop_nil, reduceIte, reduceCtorEq]
    exact ⟨by omega, ⟨by omega, by omega⟩, k _ _ _ (nm_nat m0).1 (nm_nat m0).2 ⟨n0, n1⟩⟩
  · simp only [t_Ltake_1, t_Ltake_2, t_Ltake_3, t_Ltake_4, t_Ltake_5, t_Ltake_6, t_Ltake, flatD, List.any_cons, List.any_nil, eqv_str, eqv_int, eqv_ti, eqv_it, eqv_st, eqv_ts, cut1, Bool.or_false, Bool.or_true, Bool.and_self, Bool.and_true, Bool.and_false, Bool.false_or, Bool.true_or, and_self, ofs_inj, ofs_app, ofs_len, String.reduceEq, String.reduceNe, String.reduceAppend, decide_true, decide_false, Bool.not_true, Bool.not_false, sz0, sz1, sz2, sz3, sz4, sz5, sz6, sz7, sz8, sz9, sz10, sz11, sz12, sz13, sz14, sz15, sz16, sz17, sz18, sz19, sz20, sz21, sz22, sz23, sz24, sz25, cpow1018, true_and, and_true, Nat.reduceAdd, Nat.reduceLT, Nat.reduceSub, Int.reduceNe, Int.reduceEq, Int.reduceLT, Int.reduceLE, Int.reduceToNat, ne_eq, not_false_eq_true, List.length_map, Nat.lt_irrefl, dV_nx, dV_rt, at0, at1, at2, at3, ix20, ix21, vSeq, vIfS, vTest, vTruth, truth, v2, v1, vN, vCons, vNil, vStar, vVar, vC, xIx, Vl.opI0, Vl.opI, pk, vSet, vAug, vAsg, xgSub, vRet, vRetN, vNext, vDrop, vBreak, vCont, asD, asDs, opMod, opDiv, opMul2, Vl.opAdd, Vl.opAddO, opSub, opPow, opLt, Vl.opLe, opGt, Vl.opGe, xEq, okEq_str, okEq_int, xIn, okIn, inD, xIsN, isNone_n, isNone_t, isNone_l, isNone_i, isNone_s, isMo, mob, pkm, gModI, gDivI, gSubI, gMulI, gPowI, gGt, gLt, gLe, gGe, vNotT, vAndT, vOrT, vAndV, vOrV, opNot, opNotG, vIfE, opTup, opLst, opLstO, Vl.opLen, Vl.opInt, opList, opListO, opTuple, opII, gMax, gMin, vM, vM0, isT, xPop, Vl.opAppend, opExtend, opJoin, vgName, vgTup, vgCons, vgNil, kOpt_some, kOpn_some, kOps_some, Vl.opSum, Vl.opInsert, Vl.opIndex, opDivmod, vSl, vPart, vNoPart, opSl, opSlO, opRev, opCallK, ownD, ownO, objs, renum, uniq, getS, putS, vCall0, vFor, vForW, En.wk, vSeqI, vTupI, vRng1, vRng2, vEnum, vZip, chkOf, vLcK, vYes, finD, finO, En.wipe, wipeE, En.trim, trimS, dropNone, clr_n, clr_v, clr_k, clr_o, wth, Vl.ret, takeS, startV,  List.map_cons, List.map_nil, List.length_cons, List.length_nil, List.cons_append, List.nil_append, List.replicate, List.getElem?_cons_succ, List.getElem?_cons_zero, List.getElem?_nil, List.set_cons_succ, List.set_cons_zero, List.set_nil, List.all_nil, List.all_cons, Bool.true_and, Option.map_some, Option.map_none, if_true, if_false, decide_eq_true_eq, Bool.false_eq_true, List.take_succ_cons, List.take_zero, List.take_nil, List.drop_succ_cons, List.drop_zero, List.drop_nil, reduceIte, reduceCtorEq]
    exact ⟨.inl ⟨by omega, by omega⟩, .inl ⟨by omega, by omega⟩, ⟨by decide, by decide⟩, by omega, k _ _ _ (nm_nat m0).1 (nm_nat m0).2 q1⟩
theorem r_pool {ss cs Kp} (h : pPool ss cs Kp) : t_Lpool (dV cs.length Kp) ⟨startV 4 ss, cs.map some⟩ := by
  obtain ⟨ns, n, rfl, rfl, n0, n1, k⟩ := h
  have fin : ∀ (x : Int) (i2 : Option Sl), t_Lpool_5 (dV 0 Kp) ⟨[some (.kn (ns.map .int)), some (.val (.int n)), some (.val (.int x)), i2], []⟩ := fun x i2 => by
    have q1 := nm_nat (x := x) (m := 2147483629) (by decide)
    have nn : (n : Int) * n ≤ 63 * 63 := by
      have : n * n ≤ 63 * 63 := Nat.mul_le_mul n1 n1
      exact_mod_cast this
    have n2 : 0 ≤ (n : Int) * n := Int.mul_nonneg (by omega) (by omega)
    simp only [t_Lpool_5, flatD, List.any_cons, List.any_nil, eqv_str, eqv_int, eqv_ti, eqv_it, eqv_st, eqv_ts, cut1, Bool.or_false, Bool.or_true, Bool.and_self, Bool.and_true, Bool.and_false, Bool.false_or, Bool.true_or, and_self, ofs_inj, ofs_app, ofs_len, String.reduceEq, String.reduceNe, String.reduceAppend, decide_true, decide_false, Bool.not_true, Bool.not_false, sz0, sz1, sz2, sz3, sz4, sz5, sz6, sz7, sz8, sz9, sz10, sz11, sz12, sz13, sz14, sz15, sz16, sz17, sz18, sz19, sz20, sz21, sz22, sz23, sz24, sz25, cpow1018, true_and, and_true, Nat.reduceAdd, Nat.reduceLT, Nat.reduceSub, Int.reduceNe, Int.reduceEq, Int.reduceLT, Int.reduceLE, Int.reduceToNat, ne_eq, not_false_eq_true, List.length_map, Nat.lt_irrefl, dV_nx, dV_rt, at0, at1, at2, at3, ix20, ix21, vSeq, vIfS, vTest, vTruth, truth, v2, v1, vN, vCons, vNil, vStar, vVar, vC, xIx, Vl.opI0, Vl.opI, pk, vSet, vAug, vAsg, xgSub, vRet, vRetN, vNext, vDrop, vBreak, vCont, asD, asDs, opMod, opDiv, opMul2, Vl.opAdd, Vl.opAddO, opSub, opPow, opLt, Vl.opLe, opGt, Vl.opGe, xEq, okEq_str, okEq_int, xIn, okIn, inD, xIsN, isNone_n, isNone_t, isNone_l, isNone_i, isNone_s, isMo, mob, pkm, gModI, gDivI, gSubI, gMulI, gPowI, gGt, gLt, gLe, gGe, vNotT, vAndT, vOrT, vAndV, vOrV, opNot, opNotG, vIfE, opTup, opLst, opLstO, Vl.opLen, Vl.opInt, opList, opListO, opTuple, opII, gMax, gMin, vM, vM0, isT, xPop, Vl.opAppend, opExtend, opJoin, vgName, vgTup, vgCons, vgNil, kOpt_some, kOpn_some, kOps_some, Vl.opSum, Vl.opInsert, Vl.opIndex, opDivmod, vSl, vPart, vNoPart, opSl, opSlO, opRev, opCallK, ownD, ownO, objs, renum, uniq, getS, putS, vCall0, vFor, vForW, En.wk, vSeqI, vTupI, vRng1, vRng2, vEnum, vZip, chkOf, vLcK, vYes, finD, finO, En.wipe, wipeE, En.trim, trimS, dropNone, clr_n, clr_v, clr_k, clr_o, wth, Vl.ret, takeS, startV,  List.map_cons, List.map_nil, List.length_cons, List.length_nil, List.cons_append, List.nil_append, List.replicate, List.getElem?_cons_succ, List.getElem?_cons_zero, List.getElem?_nil, List.set_cons_succ, List.set_cons_zero, List.set_nil, List.all_nil, List.all_cons, Bool.true_and, Option.map_some, Option.map_none, if_true, if_false, decide_eq_true_eq, Bool.false_eq_true, List.take_succ_cons, List.take_zero, List.take_nil, List.drop_succ_cons, List.drop_zero, List.drop_nil, reduceIte, reduceCtorEq]
    have na : (x.fmod 2147483629 + 104729 * ↑n * ↑n + 11).natAbs < 2 ^ 64 := by
      have : (104729 : Int) * n * n = 104729 * (n * n) := by rw [Int.mul_assoc]
      omega
    refine ⟨.inl ⟨by decide, by decide⟩, .inl ⟨by omega, by omega⟩, ⟨by decide, by decide, na⟩, ?_⟩
    simp only [t_Lpool_4, flatD, List.any_cons, List.any_nil, eqv_str, eqv_int, eqv_ti, eqv_it, eqv_st, eqv_ts, cut1, Bool.or_false, Bool.or_true, Bool.and_self, Bool.and_true, Bool.and_false, Bool.false_or, Bool.true_or, and_self, ofs_inj, ofs_app, ofs_len, String.reduceEq, String.reduceNe, String.reduceAppend, decide_true, decide_false, Bool.not_true, Bool.not_false, sz0, sz1, sz2, sz3, sz4, sz5, sz6, sz7, sz8, sz9, sz10, sz11, sz12, sz13, sz14, sz15, sz16, sz17, sz18, sz19, sz20, sz21, sz22, sz23, sz24, sz25, cpow1018, true_and, and_true, Nat.reduceAdd, Nat.reduceLT, Nat.reduceSub, Int.reduceNe, Int.reduceEq, Int.reduceLT, Int.reduceLE, Int.reduceToNat, ne_eq, not_false_eq_true, List.length_map, Nat.lt_irrefl, dV_nx, dV_rt, at0, at1, at2, at3, ix20, ix21, vSeq, vIfS, vTest, vTruth, truth, v2, v1, vN, vCons, vNil, vStar, vVar, vC, xIx, Vl.opI0, Vl.opI, pk, vSet, vAug, vAsg, xgSub, vRet, vRetN, vNext, vDrop, vBreak, vCont, asD, asDs, opMod, opDiv, opMul2, Vl.opAdd, Vl.opAddO, opSub, opPow, opLt, Vl.opLe, opGt, Vl.opGe, xEq, okEq_str, okEq_int, xIn, okIn, inD, xIsN, isNone_n, isNone_t, isNone_l, isNone_i, isNone_s, isMo, mob, pkm, gModI, gDivI, gSubI, gMulI, gPowI, gGt, gLt, gLe, gGe, vNotT, vAndT, vOrT, vAndV, vOrV, opNot, opNotG, vIfE, opTup, opLst, opLstO, Vl.opLen, Vl.opInt, opList, opListO, opTuple, opII, gMax, gMin, vM, vM0, isT, xPop, Vl.opAppend, opExtend, opJoin, vgName, vgTup, vgCons, vgNil, kOpt_some, kOpn_some, kOps_some, Vl.opSum, Vl.opInsert, Vl.opIndex, opDivmod, vSl, vPart, vNoPart, opSl, opSlO, opRev, opCallK, ownD, ownO, objs, renum, uniq, getS, putS, vCall0, vFor, vForW, En.wk, vSeqI, vTupI, vRng1, vRng2, vEnum, vZip, chkOf, vLcK, vYes, finD, finO, En.wipe, wipeE, En.trim, trimS, dropNone, clr_n, clr_v, clr_k, clr_o, wth, Vl.ret, takeS, startV,  List.map_cons, List.map_nil, List.length_cons, List.length_nil, List.cons_append, List.nil_append, List.replicate, List.getElem?_cons_succ, List.getElem?_cons_zero, List.getElem?_nil, List.set_cons_succ, List.set_cons_zero, List.set_nil, List.all_nil, List.all_cons, Bool.true_and, Option.map_some, Option.map_none, if_true, if_false, decide_eq_true_eq, Bool.false_eq_true, List.take_succ_cons, List.take_zero, List.take_nil, List.drop_succ_cons, List.drop_zero, List.drop_nil, reduceIte, reduceCtorEq]
    have q2 := nm_nat (x := (x.fmod 2147483629 + 104729 * ↑n * ↑n + 11) ^ (3 : Int).toNat) (m := 2147483647) (by decide)
    split
    · simp only [t_Lpool_2, t_Lpool_3, flatD, List.any_cons, List.any_nil, eqv_str, eqv_int, eqv_ti, eqv_it, eqv_st, eqv_ts, cut1, Bool.or_false, Bool.or_true, Bool.and_self, Bool.and_true, Bool.and_false, Bool.false_or, Bool.true_or, and_self, ofs_inj, ofs_app, ofs_len, String.reduceEq, String.reduceNe, String.reduceAppend, decide_true, decide_false, Bool.not_true, Bool.not_false, sz0, sz1, sz2, sz3, sz4, sz5, sz6, sz7, sz8, sz9, sz10, sz11, sz12, sz13, sz14, sz15, sz16, sz17, sz18, sz19, sz20, sz21, sz22, sz23, sz24, sz25, cpow1018, true_and, and_true, Nat.reduceAdd, Nat.reduceLT, Nat.reduceSub, Int.reduceNe, Int.reduceEq, Int.reduceLT, Int.reduceLE, Int.reduceToNat, ne_eq, not_false_eq_true, List.length_map, Nat.lt_irrefl, dV_nx, dV_rt, at0, at1, at2, at3, ix20, ix21, vSeq, vIfS, vTest, vTruth, truth, v2, v1, vN, vCons, vNil, vStar, vVar, vC, xIx, Vl.opI0, Vl.opI, pk, vSet, vAug, vAsg, xgSub, vRet, vRetN, vNext, vDrop, vBreak, vCont, asD, asDs, opMod, opDiv, opMul2, Vl.opAdd, Vl.opAddO, opSub, opPow, opLt, Vl.opLe, opGt, Vl.opGe, xEq, okEq_str, okEq_int, xIn, okIn, inD, xIsN, isNone_n, isNone_t, isNone_l, isNone_i, isNone_s, isMo, mob, pkm, gModI, gDivI, gSubI, gMulI, gPowI, gGt, gLt, gLe, gGe, vNotT, vAndT, vOrT, vAndV, vOrV, opNot, opNotG, vIfE, opTup, opLst, opLstO, Vl.opLen, Vl.opInt, opList, opListO, opTuple, opII, gMax, gMin, vM, vM0, isT, xPop, Vl.opAppend, opExtend, opJoin, vgName, vgTup, vgCons, vgNil, kOpt_some, kOpn_some, kOps_some, Vl.opSum, Vl.opInsert, Vl.opIndex, opDivmod, vSl, vPart, vNoPart, opSl, opSlO, opRev, opCallK, ownD, ownO, objs, renum, uniq, getS, putS, vCall0, vFor, vForW, En.wk, vSeqI, vTupI, vRng1, vRng2, vEnum, vZip, chkOf, vLcK, vYes, finD, finO, En.wipe, wipeE, En.trim, trimS, dropNone, clr_n, clr_v, clr_k, clr_o, wth, Vl.ret, takeS, startV,  List.map_cons, List.map_nil, List.length_cons, List.length_nil, List.cons_append, List.nil_append, List.replicate, List.getElem?_cons_succ, List.getElem?_cons_zero, List.getElem?_nil, List.set_cons_succ, List.set_cons_zero, List.set_nil, List.all_nil, List.all_cons, Bool.true_and, Option.map_some, Option.map_none, if_true, if_false, decide_eq_true_eq, Bool.false_eq_true, List.take_succ_cons, List.take_zero, List.take_nil, List.drop_succ_cons, List.drop_zero, List.drop_nil, reduceIte, reduceCtorEq]
      exact k _ _ q2
    · simp only [t_Lpool_3, flatD, List.any_cons, List.any_nil, eqv_str, eqv_int, eqv_ti, eqv_it, eqv_st, eqv_ts, cut1, Bool.or_false, Bool.or_true, Bool.and_self, Bool.and_true, Bool.and_false, Bool.false_or, Bool.true_or, and_self, ofs_inj, ofs_app, ofs_len, String.reduceEq, String.reduceNe, String.reduceAppend, decide_true, decide_false, Bool.not_true, Bool.not_false, sz0, sz1, sz2, sz3, sz4, sz5, sz6, sz7, sz8, sz9, sz10, sz11, sz12, sz13, sz14, sz15, sz16, sz17, sz18, sz19, sz20, sz21, sz22, sz23, sz24, sz25, cpow1018, true_and, and_true, Nat.reduceAdd, Nat.reduceLT, Nat.reduceSub, Int.reduceNe, Int.reduceEq, Int.reduceLT, Int.reduceLE, Int.reduceToNat, ne_eq, not_false_eq_true, List.length_map, Nat.lt_irrefl, dV_nx, dV_rt, at0, at1, at2, at3, ix20, ix21, vSeq, vIfS, vTest, vTruth, truth, v2, v1, vN, vCons, vNil, vStar, vVar, vC, xIx, Vl.opI0, Vl.opI, pk, vSet, vAug, vAsg, xgSub, vRet, vRetN, vNext, vDrop, vBreak, vCont, asD, asDs, opMod, opDiv, opMul2, Vl.opAdd, Vl.opAddO, opSub, opPow, opLt, Vl.opLe, opGt, Vl.opGe, xEq, okEq_str, okEq_int, xIn, okIn, inD, xIsN, isNone_n, isNone_t, isNone_l, isNone_i, isNone_s, isMo, mob, pkm, gModI, gDivI, gSubI, gMulI, gPowI, gGt, gLt, gLe, gGe, vNotT, vAndT, vOrT, vAndV, vOrV, opNot, opNotG, vIfE, opTup, opLst, opLstO, Vl.opLen, Vl.opInt, opList, opListO, opTuple, opII, gMax, gMin, vM, vM0, isT, xPop, Vl.opAppend, opExtend, opJoin, vgName, vgTup, vgCons, vgNil, kOpt_some, kOpn_some, kOps_some, Vl.opSum, Vl.opInsert, Vl.opIndex, opDivmod, vSl, vPart, vNoPart, opSl, opSlO, opRev, opCallK, ownD, ownO, objs, renum, uniq, getS, putS, vCall0, vFor, vForW, En.wk, vSeqI, vTupI, vRng1, vRng2, vEnum, vZip, chkOf, vLcK, vYes, finD, finO, En.wipe, wipeE, En.trim, trimS, dropNone, clr_n, clr_v, clr_k, clr_o, wth, Vl.ret, takeS, startV,  List.map_cons, List.map_nil, List.length_cons, List.length_nil, List.cons_append, List.nil_append, List.replicate, List.getElem?_cons_succ, List.getElem?_cons_zero, List.getElem?_nil, List.set_cons_succ, List.set_cons_zero, List.set_nil, List.all_nil, List.all_cons, Bool.true_and, Option.map_some, Option.map_none, if_true, if_false, decide_eq_true_eq, Bool.false_eq_true, List.take_succ_cons, List.take_zero, List.take_nil, List.drop_succ_cons, List.drop_zero, List.drop_nil, reduceIte, reduceCtorEq]
      exact k _ _ q2
  simp only [t_Lpool, t_Lpool_7, t_Lpool_6, List.length_map, flatD, List.any_cons, List.any_nil, eqv_str, eqv_int, eqv_ti, eqv_it, eqv_st, eqv_ts, cut1, Bool.or_false, Bool.or_true, Bool.and_self, Bool.and_true, Bool.and_false, Bool.false_or, Bool.true_or, and_self, ofs_inj, ofs_app, ofs_len, String.reduceEq, String.reduceNe, String.reduceAppend, decide_true, decide_false, Bool.not_true, Bool.not_false, sz0, sz1, sz2, sz3, sz4, sz5, sz6, sz7, sz8, sz9, sz10, sz11, sz12, sz13, sz14, sz15, sz16, sz17, sz18, sz19, sz20, sz21, sz22, sz23, sz24, sz25, cpow1018, true_and, and_true, Nat.reduceAdd, Nat.reduceLT, Nat.reduceSub, Int.reduceNe, Int.reduceEq, Int.reduceLT, Int.reduceLE, Int.reduceToNat, ne_eq, not_false_eq_true, List.length_map, Nat.lt_irrefl, dV_nx, dV_rt, at0, at1, at2, at3, ix20, ix21, vSeq, vIfS, vTest, vTruth, truth, v2, v1, vN, vCons, vNil, vStar, vVar, vC, xIx, Vl.opI0, Vl.opI, pk, vSet, vAug, vAsg, xgSub, vRet, vRetN, vNext, vDrop, vBreak, vCont, asD, asDs, opMod, opDiv, opMul2, Vl.opAdd, Vl.opAddO, opSub, opPow, opLt, Vl.opLe, opGt, Vl.opGe, xEq, okEq_str, okEq_int, xIn, okIn, inD, xIsN, isNone_n, isNone_t, isNone_l, isNone_i, isNone_s, isMo, mob, pkm, gModI, gDivI, gSubI, gMulI, gPowI, gGt, gLt, gLe, gGe, vNotT, vAndT, vOrT, vAndV, vOrV, opNot, opNotG, vIfE, opTup, opLst, opLstO, Vl.opLen, Vl.opInt, opList, opListO, opTuple, opII, gMax, gMin, vM, vM0, isT, xPop, Vl.opAppend, opExtend, opJoin, vgName, vgTup, vgCons, vgNil, kOpt_some, kOpn_some, kOps_some, Vl.opSum, Vl.opInsert, Vl.opIndex, opDivmod, vSl, vPart, vNoPart, opSl, opSlO, opRev, opCallK, ownD, ownO, objs, renum, uniq, getS, putS, vCall0, vFor, vForW, En.wk, vSeqI, vTupI, vRng1, vRng2, vEnum, vZip, chkOf, vLcK, vYes, finD, finO, En.wipe, wipeE, En.trim, trimS, dropNone, clr_n, clr_v, clr_k, clr_o, wth, Vl.ret, takeS, startV,  List.map_cons, List.map_nil, List.length_cons, List.length_nil, List.cons_append, List.nil_append, List.replicate, List.getElem?_cons_succ, List.getElem?_cons_zero, List.getElem?_nil, List.set_cons_succ, List.set_cons_zero, List.set_nil, List.all_nil, List.all_cons, Bool.true_and, Option.map_some, Option.map_none, if_true, if_false, decide_eq_true_eq, Bool.false_eq_true, List.take_succ_cons, List.take_zero, List.take_nil, List.drop_succ_cons, List.drop_zero, List.drop_nil, reduceIte, reduceCtorEq]
  split
  · rename_i hk
    obtain ⟨d, hd, hm⟩ := at_any (xs := ns.map PyData.int) (r := (n : Int)) (by omega) (by rw [List.length_map]; exact hk)
    obtain ⟨x, _, rfl⟩ := List.mem_map.mp hm
    simp only [t_Lpool_1, hd, flatD, List.any_cons, List.any_nil, eqv_str, eqv_int, eqv_ti, eqv_it, eqv_st, eqv_ts, cut1, Bool.or_false, Bool.or_true, Bool.and_self, Bool.and_true, Bool.and_false, Bool.false_or, Bool.true_or, and_self, ofs_inj, ofs_app, ofs_len, String.reduceEq, String.reduceNe, String.reduceAppend, decide_true, decide_false, Bool.not_true, Bool.not_false, sz0, sz1, sz2, sz3, sz4, sz5, sz6, sz7, sz8, sz9, sz10, sz11, sz12, sz13, sz14, sz15, sz16, sz17, sz18, sz19, sz20, sz21, sz22, sz23, sz24, sz25, cpow1018, true_and, and_true, Nat.reduceAdd, Nat.reduceLT, Nat.reduceSub, Int.reduceNe, Int.reduceEq, Int.reduceLT, Int.reduceLE, Int.reduceToNat, ne_eq, not_false_eq_true, List.length_map, Nat.lt_irrefl, dV_nx, dV_rt, at0, at1, at2, at3, ix20, ix21, vSeq, vIfS, vTest, vTruth, truth, v2, v1, vN, vCons, vNil, vStar, vVar, vC, xIx, Vl.opI0, Vl.opI, pk, vSet, vAug, vAsg, xgSub, vRet, vRetN, vNext, vDrop, vBreak, vCont, asD, asDs, opMod, opDiv, opMul2, Vl.opAdd, Vl.opAddO, opSub, opPow, opLt, Vl.opLe, opGt, Vl.opGe, xEq, okEq_str, okEq_int, xIn, okIn, inD, xIsN, isNone_n, isNone_t, isNone_l, isNone_i, isNone_s, isMo, mob, pkm, gModI, gDivI, gSubI, gMulI, gPowI, gGt, gLt, gLe, gGe, vNotT, vAndT, vOrT, vAndV, vOrV, opNot, opNotG, vIfE, opTup, opLst, opLstO, Vl.opLen, Vl.opInt, opList, opListO, opTuple, opII, gMax, gMin, vM, vM0, isT, xPop, Vl.opAppend, opExtend, opJoin, vgName, vgTup, vgCons, vgNil, kOpt_some, kOpn_some, kOps_some, Vl.opSum, Vl.opInsert, Vl.opIndex, opDivmod, vSl, vPart, vNoPart, opSl, opSlO, opRev, opCallK, ownD, ownO, objs, renum, uniq, getS, putS, vCall0, vFor, vForW, En.wk, vSeqI, vTupI, vRng1, vRng2, vEnum, vZip, chkOf, vLcK, vYes, finD, finO, En.wipe, wipeE, En.trim, trimS, dropNone, clr_n, clr_v, clr_k, clr_o, wth, Vl.ret, takeS, startV,  List.map_cons, List.map_nil, List.length_cons, List.length_nil, List.cons_append, List.nil_append, List.replicate, List.getElem?_cons_succ, List.getElem?_cons_zero, List.getElem?_nil, List.set_cons_succ, List.set_cons_zero, List.set_nil, List.all_nil, List.all_cons, Bool.true_and, Option.map_some, Option.map_none, if_true, if_false, decide_eq_true_eq, Bool.false_eq_true, List.take_succ_cons, List.take_zero, List.take_nil, List.drop_succ_cons, List.drop_zero, List.drop_nil, reduceIte, reduceCtorEq]
    exact fin _ _
  · exact fin _ _
end Kf
namespace Kf
open PySem L2 Vl PySem.Spec PyProof.Rows
structure IsMk (m : Str) : Prop where
  sg : ∀ c ∈ m.cps.toList, 97 ≤ c ∧ c ≤ 122
  lo : 1 ≤ m.length
  hi : m.length ≤ 6
theorem strOk_iff (x : Str) : PyData.strOk x = true ↔ ∀ c ∈ x.cps.toList, c < 0x110000 := by
  unfold PyData.strOk
  rw [← Array.all_toList, List.all_eq_true]
  simp
theorem IsMk.ok {m : Str} (h : IsMk m) : PyData.strOk m = true := (strOk_iff m).mpr fun c hc => by
  have := (h.sg c hc).2
  omega
end Kf
namespace Kf
open PySem L2 Vl PySem.Spec PyProof.Rows
def t_Lkind_1 (p_Ltakev2 p_Lkind : VSp) : VTS := (vRet (vN opTup (vCons (vC (.str "one")) vNil)))
def t_Lkind_2 (p_Ltakev2 p_Lkind : VSp) : VTS := (vRet (vN opTup (vCons (vC (.str "mark")) (vCons (v2 xIx (vVar 2) (vN (opCallK ownD p_Ltakev2) (vCons (vVar 0) (vCons (vN opLen (vCons (vVar 2) vNil)) vNil)))) vNil))))
def t_Lkind_3 (p_Ltakev2 p_Lkind : VSp) : VTS := vSeq (vIfS (vTest (v2 (xEq false) (vN (opCallK ownD p_Ltakev2) (vCons (vVar 0) (vCons (vC (.int 9)) vNil))) (vC (.int 8)))) (t_Lkind_1 p_Ltakev2 p_Lkind) vNext) (t_Lkind_2 p_Ltakev2 p_Lkind)
def t_Lkind_4 (p_Ltakev2 p_Lkind : VSp) : VTS := (vRet (vN opTup (vCons (vVar 4) (vCons (vN (opCallK ownD p_Lkind) (vCons (vVar 0) (vCons (vVar 3) (vCons (vVar 2) vNil)))) (vCons (vN (opCallK ownD p_Lkind) (vCons (vVar 0) (vCons (v2 opSub (vVar 1) (vVar 3)) (vCons (vVar 2) vNil)))) vNil)))))
def t_Lkind_5 (p_Ltakev2 p_Lkind : VSp) : VTS := vSeq (vSet 4 (v2 xIx (vN opLst (vCons (vC (.str "to")) (vCons (vC (.str "to")) (vCons (vC (.str "both")) vNil)))) (vN (opCallK ownD p_Ltakev2) (vCons (vVar 0) (vCons (vC (.int 3)) vNil))))) (t_Lkind_4 p_Ltakev2 p_Lkind)
def t_Lkind_6 (p_Ltakev2 p_Lkind : VSp) : VTS := vSeq (vSet 3 (v2 opAdd (vC (.int 1)) (vN (opCallK ownD p_Ltakev2) (vCons (vVar 0) (vCons (v2 opSub (vVar 1) (vC (.int 1))) vNil))))) (t_Lkind_5 p_Ltakev2 p_Lkind)
def t_Lkind_7 (p_Ltakev2 p_Lkind : VSp) : VTS := vSeq (vIfS (vTest (v2 (xEq false) (vVar 1) (vC (.int 1)))) (t_Lkind_3 p_Ltakev2 p_Lkind) vNext) (t_Lkind_6 p_Ltakev2 p_Lkind)
def t_Lkind (p_Ltakev2 p_Lkind : VSp) : VTS := (t_Lkind_7 p_Ltakev2 p_Lkind)
end Kf
namespace Kf
open PySem L2 Vl PySem.Spec PyProof.Rows
/-- a move along a kind -/
inductive Mv where
  | kd (k : Kd)
  | one
  | two
def Mv.enc : Mv → D
  | .kd k => k.enc
  | .one => .int 1
  | .two => .int 2
abbrev ab : List Str := ["a", "b"]
theorem ab_ok : ∀ m ∈ ab, PyData.strOk m = true := by decide +kernel
def Kd.ok4 (k : Kd) : Prop := k.over ab ∧ k.leaves ≤ 4
theorem Kd.ok4.shp {k : Kd} (h : k.ok4) : Vl.shp k.enc = true := Kd.shp ab_ok h.1 (by have := h.2; omega)
theorem Kd.ok4.l {a b : Kd} (h : (Kd.to a b).ok4) : a.ok4 ∧ b.ok4 := ⟨⟨h.1.1, by have := h.2; have := b.leaves_pos; simp only [Kd.leaves] at *; omega⟩, h.1.2, by have := h.2; have := a.leaves_pos; simp only [Kd.leaves] at *; omega⟩
end Kf
namespace Kf
open PySem L2 Vl PySem.Spec PyProof.Rows
abbrev five : List Str := ["u", "v", "x0", "x7", "f"]
theorem five_ne {x : Str} (h : x ∈ five) : PyData.strOk x = true ∧ x ≠ "p" ∧ x ≠ "q" := by
  revert x
  decide +kernel
structure Known (r : List (Str × Kd)) : Prop where
  each : ∀ x ∈ r, PyData.strOk x.1 = true ∧ x.2.ok4
  p : look r "p" = some (.mark "a")
  q : look r "q" = some (.mark "b")
theorem Known.add {r : List (Str × Kd)} (h : Known r) {x : Str} {k : Kd} (hx : x ∈ five) (hk : k.ok4) : Known (r ++ [(x, k)]) := by
  obtain ⟨h0, h1, h2⟩ := five_ne hx
  refine ⟨fun y hy => ?_, ?_, ?_⟩
  · rcases List.mem_append.mp hy with hy | hy
    · exact h.each y hy
    · rw [List.mem_singleton.mp hy]
      exact ⟨h0, hk⟩
  · rw [look_app, if_neg h1]; exact h.p
  · rw [look_app, if_neg h2]; exact h.q
/-- names and kinds as they may be -/
def Pg.fine : Pg → Prop
  | .name x => PyData.strOk x = true
  | .take x k p => PyData.strOk x = true ∧ k.ok4 ∧ p.fine
  | .give p q => p.fine ∧ q.fine
  | .pair p q => p.fine ∧ q.fine
  | .first p => p.fine
  | .second p => p.fine
  | .thing => True
end Kf
namespace Kf
open PySem L2 Vl PySem.Spec PyProof.Rows
def row0 : List (Str × Kd) := [("p", .mark "a"), ("q", .mark "b")]
/-- the rows that are drawn -/
inductive Row : List (Str × Kd) → Prop
  | none : Row row0
  | one {k : Kd} : k.ok4 → Row (row0 ++ [(("f" : Str), k)])
  | two {k l : Kd} : k.ok4 → l.ok4 → Row (row0 ++ [(("f" : Str), k)] ++ [(("g" : Str), l)])
theorem Row.len {r : List (Str × Kd)} (h : Row r) : r.length ≤ 4 := by
  cases h <;> simp [row0]
theorem Kd.can4 {k : Kd} (h : k.ok4) : k.enc.canLay0 = true := k.can_enc ab_ok h.1
theorem Kd.dep4 {k : Kd} (h : k.ok4) : k.enc.depth ≤ 4 := by
  have := k.deep_lt
  have := h.2
  rw [k.depth_enc]
  omega
theorem Pg.can_enc : ∀ p : Pg, p.fine → p.enc.canLay0 = true
  | .name x, h => by
    have h' : PyData.strOk x = true := h
    simp only [Pg.enc, can_tup, canAll_cons, canAll_nil, can_str, h']
    decide +kernel
  | .take x k p, ⟨h1, h2, h3⟩ => by
    simp only [Pg.enc, can_tup, canAll_cons, canAll_nil, can_str, h1, k.can4 h2, p.can_enc h3]
    decide +kernel
  | .give p q, ⟨h1, h2⟩ => by
    simp only [Pg.enc, can_tup, canAll_cons, canAll_nil, can_str, p.can_enc h1, q.can_enc h2]
    decide +kernel
  | .pair p q, ⟨h1, h2⟩ => by
    simp only [Pg.enc, can_tup, canAll_cons, canAll_nil, can_str, p.can_enc h1, q.can_enc h2]
    decide +kernel
  | .first p, h => by
    have h' : p.fine := h
    simp only [Pg.enc, can_tup, canAll_cons, canAll_nil, can_str, p.can_enc h']
    decide +kernel
  | .second p, h => by
    have h' : p.fine := h
    simp only [Pg.enc, can_tup, canAll_cons, canAll_nil, can_str, p.can_enc h']
    decide +kernel
  | .thing, _ => by
    simp only [Pg.enc, can_tup, canAll_cons, canAll_nil, can_str]
    decide +kernel
theorem Pg.depth_enc : ∀ p : Pg, p.fine → p.enc.depth ≤ p.deep + 6
  | .name x, h => by
    simp only [Pg.enc, depth_tup, depthAll_cons, depthAll_nil, depth_str, Pg.deep]
    omega
  | .take x k p, ⟨h1, h2, h3⟩ => by
    have := p.depth_enc h3
    have := k.dep4 h2
    simp only [Pg.enc, depth_tup, depthAll_cons, depthAll_nil, depth_str, Pg.deep]
    omega
  | .give p q, ⟨h1, h2⟩ => by
    have := p.depth_enc h1
    have := q.depth_enc h2
    simp only [Pg.enc, depth_tup, depthAll_cons, depthAll_nil, depth_str, Pg.deep]
    omega
  | .pair p q, ⟨h1, h2⟩ => by
    have := p.depth_enc h1
    have := q.depth_enc h2
    simp only [Pg.enc, depth_tup, depthAll_cons, depthAll_nil, depth_str, Pg.deep]
    omega
  | .first p, h => by
    have := p.depth_enc h
    simp only [Pg.enc, depth_tup, depthAll_cons, depthAll_nil, depth_str, Pg.deep]
    omega
  | .second p, h => by
    have := p.depth_enc h
    simp only [Pg.enc, depth_tup, depthAll_cons, depthAll_nil, depth_str, Pg.deep]
    omega
  | .thing, _ => by
    simp only [Pg.enc, depth_tup, depthAll_cons, depthAll_nil, depth_str, Pg.deep]
    omega
/-- what stands in a part's tuple -/
inductive It where
  | s (x : Str)
  | k (k : Kd)
  | p (p : Pg)
def It.enc : It → D
  | .s a => .str a
  | .k a => a.enc
  | .p a => a.enc
theorem i_kind {N : Nat} {ss st Kp} (h : pKind N ss st Kp) : ∃ (l c n : Int) (ms : List Str), ss = [.obj 0, .val (.int l), .val (.list (ms.map .str))] ∧ st = [.l [.int c, .int n]] ∧ PoolK n ∧ 1 ≤ l ∧ l ≤ N ∧ l < 1000 ∧ 0 < ms.length ∧ ms.length < 1000 ∧
      ∀ (k : Kd) (c' n' : Int), (k.leaves : Int) = l → k.over ms → PoolK n' → Kp (.val k.enc) [.l [.int c', .int n']] := by
  unfold pKind at h
  split at h
  · obtain ⟨a, b, c, d, ms, rfl, e, f, g⟩ := h
    exact ⟨_, _, _, ms, rfl, rfl, a, b, c, d, e, f, g⟩
  · exact h.elim
theorem r_kind {N : Nat} {ss cs Kp} (h : pKind (N + 1) ss cs Kp) : t_Lkind pTake (pKind N) (dV cs.length Kp) ⟨startV 5 ss, cs.map some⟩ := by
  obtain ⟨l, c, n, ms, rfl, rfl, pn, l1, l2, l3, m0, m1, k⟩ := i_kind h
  simp only [t_Lkind, t_Lkind_7, flatD, List.any_cons, List.any_nil, eqv_str, eqv_int, eqv_ti, eqv_it, eqv_st, eqv_ts, cut1, Bool.or_false, Bool.or_true, Bool.and_self, Bool.and_true, Bool.and_false, Bool.false_or, Bool.true_or, and_self, ofs_inj, ofs_app, ofs_len, String.reduceEq, String.reduceNe, String.reduceAppend, decide_true, decide_false, Bool.not_true, Bool.not_false, sz0, sz1, sz2, sz3, sz4, sz5, sz6, sz7, sz8, sz9, sz10, sz11, sz12, sz13, sz14, sz15, sz16, sz17, sz18, sz19, sz20, sz21, sz22, sz23, sz24, sz25, cpow1018, true_and, and_true, Nat.reduceAdd, Nat.reduceLT, Nat.reduceSub, Int.reduceNe, Int.reduceEq, Int.reduceLT, Int.reduceLE, Int.reduceToNat, ne_eq, not_false_eq_true, List.length_map, Nat.lt_irrefl, dV_nx, dV_rt, at0, at1, at2, at3, ix20, ix21, vSeq, vIfS, vTest, vTruth, truth, v2, v1, vN, vCons, vNil, vStar, vVar, vC, xIx, Vl.opI0, Vl.opI, pk, vSet, vAug, vAsg, xgSub, vRet, vRetN, vNext, vDrop, vBreak, vCont, asD, asDs, opMod, opDiv, opMul2, Vl.opAdd, Vl.opAddO, opSub, opPow, opLt, Vl.opLe, opGt, Vl.opGe, xEq, okEq_str, okEq_int, xIn, okIn, inD, xIsN, isNone_n, isNone_t, isNone_l, isNone_i, isNone_s, isMo, mob, pkm, gModI, gDivI, gSubI, gMulI, gPowI, gGt, gLt, gLe, gGe, vNotT, vAndT, vOrT, vAndV, vOrV, opNot, opNotG, vIfE, opTup, opLst, opLstO, Vl.opLen, Vl.opInt, opList, opListO, opTuple, opII, gMax, gMin, vM, vM0, isT, xPop, Vl.opAppend, opExtend, opJoin, vgName, vgTup, vgCons, vgNil, kOpt_some, kOpn_some, kOps_some, Vl.opSum, Vl.opInsert, Vl.opIndex, opDivmod, vSl, vPart, vNoPart, opSl, opSlO, opRev, opCallK, ownD, ownO, objs, renum, uniq, getS, putS, vCall0, vFor, vForW, En.wk, vSeqI, vTupI, vRng1, vRng2, vEnum, vZip, chkOf, vLcK, vYes, finD, finO, En.wipe, wipeE, En.trim, trimS, dropNone, clr_n, clr_v, clr_k, clr_o, wth, Vl.ret, takeS, startV,  List.map_cons, List.map_nil, List.length_cons, List.length_nil, List.cons_append, List.nil_append, List.replicate, List.getElem?_cons_succ, List.getElem?_cons_zero, List.getElem?_nil, List.set_cons_succ, List.set_cons_zero, List.set_nil, List.all_nil, List.all_cons, Bool.true_and, Option.map_some, Option.map_none, if_true, if_false, decide_eq_true_eq, Bool.false_eq_true, List.take_succ_cons, List.take_zero, List.take_nil, List.drop_succ_cons, List.drop_zero, List.drop_nil, reduceIte, reduceCtorEq]
  split
  · simp only [t_Lkind_3, pTake, flatD, List.any_cons, List.any_nil, eqv_str, eqv_int, eqv_ti, eqv_it, eqv_st, eqv_ts, cut1, Bool.or_false, Bool.or_true, Bool.and_self, Bool.and_true, Bool.and_false, Bool.false_or, Bool.true_or, and_self, ofs_inj, ofs_app, ofs_len, String.reduceEq, String.reduceNe, String.reduceAppend, decide_true, decide_false, Bool.not_true, Bool.not_false, sz0, sz1, sz2, sz3, sz4, sz5, sz6, sz7, sz8, sz9, sz10, sz11, sz12, sz13, sz14, sz15, sz16, sz17, sz18, sz19, sz20, sz21, sz22, sz23, sz24, sz25, cpow1018, true_and, and_true, Nat.reduceAdd, Nat.reduceLT, Nat.reduceSub, Int.reduceNe, Int.reduceEq, Int.reduceLT, Int.reduceLE, Int.reduceToNat, ne_eq, not_false_eq_true, List.length_map, Nat.lt_irrefl, dV_nx, dV_rt, at0, at1, at2, at3, ix20, ix21, vSeq, vIfS, vTest, vTruth, truth, v2, v1, vN, vCons, vNil, vStar, vVar, vC, xIx, Vl.opI0, Vl.opI, pk, vSet, vAug, vAsg, xgSub, vRet, vRetN, vNext, vDrop, vBreak, vCont, asD, asDs, opMod, opDiv, opMul2, Vl.opAdd, Vl.opAddO, opSub, opPow, opLt, Vl.opLe, opGt, Vl.opGe, xEq, okEq_str, okEq_int, xIn, okIn, inD, xIsN, isNone_n, isNone_t, isNone_l, isNone_i, isNone_s, isMo, mob, pkm, gModI, gDivI, gSubI, gMulI, gPowI, gGt, gLt, gLe, gGe, vNotT, vAndT, vOrT, vAndV, vOrV, opNot, opNotG, vIfE, opTup, opLst, opLstO, Vl.opLen, Vl.opInt, opList, opListO, opTuple, opII, gMax, gMin, vM, vM0, isT, xPop, Vl.opAppend, opExtend, opJoin, vgName, vgTup, vgCons, vgNil, kOpt_some, kOpn_some, kOps_some, Vl.opSum, Vl.opInsert, Vl.opIndex, opDivmod, vSl, vPart, vNoPart, opSl, opSlO, opRev, opCallK, ownD, ownO, objs, renum, uniq, getS, putS, vCall0, vFor, vForW, En.wk, vSeqI, vTupI, vRng1, vRng2, vEnum, vZip, chkOf, vLcK, vYes, finD, finO, En.wipe, wipeE, En.trim, trimS, dropNone, clr_n, clr_v, clr_k, clr_o, wth, Vl.ret, takeS, startV,  List.map_cons, List.map_nil, List.length_cons, List.length_nil, List.cons_append, List.nil_append, List.replicate, List.getElem?_cons_succ, List.getElem?_cons_zero, List.getElem?_nil, List.set_cons_succ, List.set_cons_zero, List.set_nil, List.all_nil, List.all_cons, Bool.true_and, Option.map_some, Option.map_none, if_true, if_false, decide_eq_true_eq, Bool.false_eq_true, List.take_succ_cons, List.take_zero, List.take_nil, List.drop_succ_cons, List.drop_zero, List.drop_nil, reduceIte, reduceCtorEq]
    refine ⟨pn, fun r c' n' r0 r1 pn' => ?_⟩
    split
    · simp only [t_Lkind_1, flatD, List.any_cons, List.any_nil, eqv_str, eqv_int, eqv_ti, eqv_it, eqv_st, eqv_ts, cut1, Bool.or_false, Bool.or_true, Bool.and_self, Bool.and_true, Bool.and_false, Bool.false_or, Bool.true_or, and_self, ofs_inj, ofs_app, ofs_len, String.reduceEq, String.reduceNe, String.reduceAppend, decide_true, decide_false, Bool.not_true, Bool.not_false, sz0, sz1, sz2, sz3, sz4, sz5, sz6, sz7, sz8, sz9, sz10, sz11, sz12, sz13, sz14, sz15, sz16, sz17, sz18, sz19, sz20, sz21, sz22, sz23, sz24, sz25, cpow1018, true_and, and_true, Nat.reduceAdd, Nat.reduceLT, Nat.reduceSub, Int.reduceNe, Int.reduceEq, Int.reduceLT, Int.reduceLE, Int.reduceToNat, ne_eq, not_false_eq_true, List.length_map, Nat.lt_irrefl, dV_nx, dV_rt, at0, at1, at2, at3, ix20, ix21, vSeq, vIfS, vTest, vTruth, truth, v2, v1, vN, vCons, vNil, vStar, vVar, vC, xIx, Vl.opI0, Vl.opI, pk, vSet, vAug, vAsg, xgSub, vRet, vRetN, vNext, vDrop, vBreak, vCont, asD, asDs, opMod, opDiv, opMul2, Vl.opAdd, Vl.opAddO, opSub, opPow, opLt, Vl.opLe, opGt, Vl.opGe, xEq, okEq_str, okEq_int, xIn, okIn, inD, xIsN, isNone_n, isNone_t, isNone_l, isNone_i, isNone_s, isMo, mob, pkm, gModI, gDivI, gSubI, gMulI, gPowI, gGt, gLt, gLe, gGe, vNotT, vAndT, vOrT, vAndV, vOrV, opNot, opNotG, vIfE, opTup, opLst, opLstO, Vl.opLen, Vl.opInt, opList, opListO, opTuple, opII, gMax, gMin, vM, vM0, isT, xPop, Vl.opAppend, opExtend, opJoin, vgName, vgTup, vgCons, vgNil, kOpt_some, kOpn_some, kOps_some, Vl.opSum, Vl.opInsert, Vl.opIndex, opDivmod, vSl, vPart, vNoPart, opSl, opSlO, opRev, opCallK, ownD, ownO, objs, renum, uniq, getS, putS, vCall0, vFor, vForW, En.wk, vSeqI, vTupI, vRng1, vRng2, vEnum, vZip, chkOf, vLcK, vYes, finD, finO, En.wipe, wipeE, En.trim, trimS, dropNone, clr_n, clr_v, clr_k, clr_o, wth, Vl.ret, takeS, startV,  List.map_cons, List.map_nil, List.length_cons, List.length_nil, List.cons_append, List.nil_append, List.replicate, List.getElem?_cons_succ, List.getElem?_cons_zero, List.getElem?_nil, List.set_cons_succ, List.set_cons_zero, List.set_nil, List.all_nil, List.all_cons, Bool.true_and, Option.map_some, Option.map_none, if_true, if_false, decide_eq_true_eq, Bool.false_eq_true, List.take_succ_cons, List.take_zero, List.take_nil, List.drop_succ_cons, List.drop_zero, List.drop_nil, reduceIte, reduceCtorEq]
      exact k .one _ _ (by simp only [Kd.leaves]; omega) trivial pn'
    · simp only [t_Lkind_2, pTake, flatD, List.any_cons, List.any_nil, eqv_str, eqv_int, eqv_ti, eqv_it, eqv_st, eqv_ts, cut1, Bool.or_false, Bool.or_true, Bool.and_self, Bool.and_true, Bool.and_false, Bool.false_or, Bool.true_or, and_self, ofs_inj, ofs_app, ofs_len, String.reduceEq, String.reduceNe, String.reduceAppend, decide_true, decide_false, Bool.not_true, Bool.not_false, sz0, sz1, sz2, sz3, sz4, sz5, sz6, sz7, sz8, sz9, sz10, sz11, sz12, sz13, sz14, sz15, sz16, sz17, sz18, sz19, sz20, sz21, sz22, sz23, sz24, sz25, cpow1018, true_and, and_true, Nat.reduceAdd, Nat.reduceLT, Nat.reduceSub, Int.reduceNe, Int.reduceEq, Int.reduceLT, Int.reduceLE, Int.reduceToNat, ne_eq, not_false_eq_true, List.length_map, Nat.lt_irrefl, dV_nx, dV_rt, at0, at1, at2, at3, ix20, ix21, vSeq, vIfS, vTest, vTruth, truth, v2, v1, vN, vCons, vNil, vStar, vVar, vC, xIx, Vl.opI0, Vl.opI, pk, vSet, vAug, vAsg, xgSub, vRet, vRetN, vNext, vDrop, vBreak, vCont, asD, asDs, opMod, opDiv, opMul2, Vl.opAdd, Vl.opAddO, opSub, opPow, opLt, Vl.opLe, opGt, Vl.opGe, xEq, okEq_str, okEq_int, xIn, okIn, inD, xIsN, isNone_n, isNone_t, isNone_l, isNone_i, isNone_s, isMo, mob, pkm, gModI, gDivI, gSubI, gMulI, gPowI, gGt, gLt, gLe, gGe, vNotT, vAndT, vOrT, vAndV, vOrV, opNot, opNotG, vIfE, opTup, opLst, opLstO, Vl.opLen, Vl.opInt, opList, opListO, opTuple, opII, gMax, gMin, vM, vM0, isT, xPop, Vl.opAppend, opExtend, opJoin, vgName, vgTup, vgCons, vgNil, kOpt_some, kOpn_some, kOps_some, Vl.opSum, Vl.opInsert, Vl.opIndex, opDivmod, vSl, vPart, vNoPart, opSl, opSlO, opRev, opCallK, ownD, ownO, objs, renum, uniq, getS, putS, vCall0, vFor, vForW, En.wk, vSeqI, vTupI, vRng1, vRng2, vEnum, vZip, chkOf, vLcK, vYes, finD, finO, En.wipe, wipeE, En.trim, trimS, dropNone, clr_n, clr_v, clr_k, clr_o, wth, Vl.ret, takeS, startV,  List.map_cons, List.map_nil, List.length_cons, List.length_nil, List.cons_append, List.nil_append, List.replicate, List.getElem?_cons_succ, List.getElem?_cons_zero, List.getElem?_nil, List.set_cons_succ, List.set_cons_zero, List.set_nil, List.all_nil, List.all_cons, Bool.true_and, Option.map_some, Option.map_none, if_true, if_false, decide_eq_true_eq, Bool.false_eq_true, List.take_succ_cons, List.take_zero, List.take_nil, List.drop_succ_cons, List.drop_zero, List.drop_nil, reduceIte, reduceCtorEq]
      refine ⟨pn', by omega, by omega, fun r c' n' r0 r1 pn' => ?_⟩
      obtain ⟨d, hd, hm⟩ := at_any (xs := ms.map PyData.str) r0 (by rw [List.length_map]; exact r1)
      obtain ⟨x, hx, rfl⟩ := List.mem_map.mp hm
      simp only [hd, flatD, List.any_cons, List.any_nil, eqv_str, eqv_int, eqv_ti, eqv_it, eqv_st, eqv_ts, cut1, Bool.or_false, Bool.or_true, Bool.and_self, Bool.and_true, Bool.and_false, Bool.false_or, Bool.true_or, and_self, ofs_inj, ofs_app, ofs_len, String.reduceEq, String.reduceNe, String.reduceAppend, decide_true, decide_false, Bool.not_true, Bool.not_false, sz0, sz1, sz2, sz3, sz4, sz5, sz6, sz7, sz8, sz9, sz10, sz11, sz12, sz13, sz14, sz15, sz16, sz17, sz18, sz19, sz20, sz21, sz22, sz23, sz24, sz25, cpow1018, true_and, and_true, Nat.reduceAdd, Nat.reduceLT, Nat.reduceSub, Int.reduceNe, Int.reduceEq, Int.reduceLT, Int.reduceLE, Int.reduceToNat, ne_eq, not_false_eq_true, List.length_map, Nat.lt_irrefl, dV_nx, dV_rt, at0, at1, at2, at3, ix20, ix21, vSeq, vIfS, vTest, vTruth, truth, v2, v1, vN, vCons, vNil, vStar, vVar, vC, xIx, Vl.opI0, Vl.opI, pk, vSet, vAug, vAsg, xgSub, vRet, vRetN, vNext, vDrop, vBreak, vCont, asD, asDs, opMod, opDiv, opMul2, Vl.opAdd, Vl.opAddO, opSub, opPow, opLt, Vl.opLe, opGt, Vl.opGe, xEq, okEq_str, okEq_int, xIn, okIn, inD, xIsN, isNone_n, isNone_t, isNone_l, isNone_i, isNone_s, isMo, mob, pkm, gModI, gDivI, gSubI, gMulI, gPowI, gGt, gLt, gLe, gGe, vNotT, vAndT, vOrT, vAndV, vOrV, opNot, opNotG, vIfE, opTup, opLst, opLstO, Vl.opLen, Vl.opInt, opList, opListO, opTuple, opII, gMax, gMin, vM, vM0, isT, xPop, Vl.opAppend, opExtend, opJoin, vgName, vgTup, vgCons, vgNil, kOpt_some, kOpn_some, kOps_some, Vl.opSum, Vl.opInsert, Vl.opIndex, opDivmod, vSl, vPart, vNoPart, opSl, opSlO, opRev, opCallK, ownD, ownO, objs, renum, uniq, getS, putS, vCall0, vFor, vForW, En.wk, vSeqI, vTupI, vRng1, vRng2, vEnum, vZip, chkOf, vLcK, vYes, finD, finO, En.wipe, wipeE, En.trim, trimS, dropNone, clr_n, clr_v, clr_k, clr_o, wth, Vl.ret, takeS, startV,  List.map_cons, List.map_nil, List.length_cons, List.length_nil, List.cons_append, List.nil_append, List.replicate, List.getElem?_cons_succ, List.getElem?_cons_zero, List.getElem?_nil, List.set_cons_succ, List.set_cons_zero, List.set_nil, List.all_nil, List.all_cons, Bool.true_and, Option.map_some, Option.map_none, if_true, if_false, decide_eq_true_eq, Bool.false_eq_true, List.take_succ_cons, List.take_zero, List.take_nil, List.drop_succ_cons, List.drop_zero, List.drop_nil, reduceIte, reduceCtorEq]
      exact k (.mark x) _ _ (by simp only [Kd.leaves]; omega) hx pn'
  · simp only [t_Lkind_6, pTake, flatD, List.any_cons, List.any_nil, eqv_str, eqv_int, eqv_ti, eqv_it, eqv_st, eqv_ts, cut1, Bool.or_false, Bool.or_true, Bool.and_self, Bool.and_true, Bool.and_false, Bool.false_or, Bool.true_or, and_self, ofs_inj, ofs_app, ofs_len, String.reduceEq, String.reduceNe, String.reduceAppend, decide_true, decide_false, Bool.not_true, Bool.not_false, sz0, sz1, sz2, sz3, sz4, sz5, sz6, sz7, sz8, sz9, sz10, sz11, sz12, sz13, sz14, sz15, sz16, sz17, sz18, sz19, sz20, sz21, sz22, sz23, sz24, sz25, cpow1018, true_and, and_true, Nat.reduceAdd, Nat.reduceLT, Nat.reduceSub, Int.reduceNe, Int.reduceEq, Int.reduceLT, Int.reduceLE, Int.reduceToNat, ne_eq, not_false_eq_true, List.length_map, Nat.lt_irrefl, dV_nx, dV_rt, at0, at1, at2, at3, ix20, ix21, vSeq, vIfS, vTest, vTruth, truth, v2, v1, vN, vCons, vNil, vStar, vVar, vC, xIx, Vl.opI0, Vl.opI, pk, vSet, vAug, vAsg, xgSub, vRet, vRetN, vNext, vDrop, vBreak, vCont, asD, asDs, opMod, opDiv, opMul2, Vl.opAdd, Vl.opAddO, opSub, opPow, opLt, Vl.opLe, opGt, Vl.opGe, xEq, okEq_str, okEq_int, xIn, okIn, inD, xIsN, isNone_n, isNone_t, isNone_l, isNone_i, isNone_s, isMo, mob, pkm, gModI, gDivI, gSubI, gMulI, gPowI, gGt, gLt, gLe, gGe, vNotT, vAndT, vOrT, vAndV, vOrV, opNot, opNotG, vIfE, opTup, opLst, opLstO, Vl.opLen, Vl.opInt, opList, opListO, opTuple, opII, gMax, gMin, vM, vM0, isT, xPop, Vl.opAppend, opExtend, opJoin, vgName, vgTup, vgCons, vgNil, kOpt_some, kOpn_some, kOps_some, Vl.opSum, Vl.opInsert, Vl.opIndex, opDivmod, vSl, vPart, vNoPart, opSl, opSlO, opRev, opCallK, ownD, ownO, objs, renum, uniq, getS, putS, vCall0, vFor, vForW, En.wk, vSeqI, vTupI, vRng1, vRng2, vEnum, vZip, chkOf, vLcK, vYes, finD, finO, En.wipe, wipeE, En.trim, trimS, dropNone, clr_n, clr_v, clr_k, clr_o, wth, Vl.ret, takeS, startV,  List.map_cons, List.map_nil, List.length_cons, List.length_nil, List.cons_append, List.nil_append, List.replicate, List.getElem?_cons_succ, List.getElem?_cons_zero, List.getElem?_nil, List.set_cons_succ, List.set_cons_zero, List.set_nil, List.all_nil, List.all_cons, Bool.true_and, Option.map_some, Option.map_none, if_true, if_false, decide_eq_true_eq, Bool.false_eq_true, List.take_succ_cons, List.take_zero, List.take_nil, List.drop_succ_cons, List.drop_zero, List.drop_nil, reduceIte, reduceCtorEq]
    refine ⟨pn, by omega, by omega, fun r c' n' r0 r1 pn' => ?_⟩
    simp only [t_Lkind_5, pTake, flatD, List.any_cons, List.any_nil, eqv_str, eqv_int, eqv_ti, eqv_it, eqv_st, eqv_ts, cut1, Bool.or_false, Bool.or_true, Bool.and_self, Bool.and_true, Bool.and_false, Bool.false_or, Bool.true_or, and_self, ofs_inj, ofs_app, ofs_len, String.reduceEq, String.reduceNe, String.reduceAppend, decide_true, decide_false, Bool.not_true, Bool.not_false, sz0, sz1, sz2, sz3, sz4, sz5, sz6, sz7, sz8, sz9, sz10, sz11, sz12, sz13, sz14, sz15, sz16, sz17, sz18, sz19, sz20, sz21, sz22, sz23, sz24, sz25, cpow1018, true_and, and_true, Nat.reduceAdd, Nat.reduceLT, Nat.reduceSub, Int.reduceNe, Int.reduceEq, Int.reduceLT, Int.reduceLE, Int.reduceToNat, ne_eq, not_false_eq_true, List.length_map, Nat.lt_irrefl, dV_nx, dV_rt, at0, at1, at2, at3, ix20, ix21, vSeq, vIfS, vTest, vTruth, truth, v2, v1, vN, vCons, vNil, vStar, vVar, vC, xIx, Vl.opI0, Vl.opI, pk, vSet, vAug, vAsg, xgSub, vRet, vRetN, vNext, vDrop, vBreak, vCont, asD, asDs, opMod, opDiv, opMul2, Vl.opAdd, Vl.opAddO, opSub, opPow, opLt, Vl.opLe, opGt, Vl.opGe, xEq, okEq_str, okEq_int, xIn, okIn, inD, xIsN, isNone_n, isNone_t, isNone_l, isNone_i, isNone_s, isMo, mob, pkm, gModI, gDivI, gSubI, gMulI, gPowI, gGt, gLt, gLe, gGe, vNotT, vAndT, vOrT, vAndV, vOrV, opNot, opNotG, vIfE, opTup, opLst, opLstO, Vl.opLen, Vl.opInt, opList, opListO, opTuple, opII, gMax, gMin, vM, vM0, isT, xPop, Vl.opAppend, opExtend, opJoin, vgName, vgTup, vgCons, vgNil, kOpt_some, kOpn_some, kOps_some, Vl.opSum, Vl.opInsert, Vl.opIndex, opDivmod, vSl, vPart, vNoPart, opSl, opSlO, opRev, opCallK, ownD, ownO, objs, renum, uniq, getS, putS, vCall0, vFor, vForW, En.wk, vSeqI, vTupI, vRng1, vRng2, vEnum, vZip, chkOf, vLcK, vYes, finD, finO, En.wipe, wipeE, En.trim, trimS, dropNone, clr_n, clr_v, clr_k, clr_o, wth, Vl.ret, takeS, startV,  List.map_cons, List.map_nil, List.length_cons, List.length_nil, List.cons_append, List.nil_append, List.replicate, List.getElem?_cons_succ, List.getElem?_cons_zero, List.getElem?_nil, List.set_cons_succ, List.set_cons_zero, List.set_nil, List.all_nil, List.all_cons, Bool.true_and, Option.map_some, Option.map_none, if_true, if_false, decide_eq_true_eq, Bool.false_eq_true, List.take_succ_cons, List.take_zero, List.take_nil, List.drop_succ_cons, List.drop_zero, List.drop_nil, reduceIte, reduceCtorEq]
    refine ⟨pn', fun q c2 n2 q0 q1 pn2 => ?_⟩
    have both : ∀ (b : Bool) (c2 n2 : Int), PoolK n2 → t_Lkind_4 pTake (pKind N) (dV 1 Kp) ⟨[some (.obj 0), some (.val (.int l)), some (.val (.list (ms.map .str))), some (.val (.int (1 + r))), some (.val (.str (if b then "to" else "both")))], [some (.l [.int c2, .int n2])]⟩ := fun b c2 n2 pn2 => by
      simp only [t_Lkind_4, pKind, flatD, List.any_cons, List.any_nil, eqv_str, eqv_int, eqv_ti, eqv_it, eqv_st, eqv_ts, cut1, Bool.or_false, Bool.or_true, Bool.and_self, Bool.and_true, Bool.and_false, Bool.false_or, Bool.true_or, and_self, ofs_inj, ofs_app, ofs_len, String.reduceEq, String.reduceNe, String.reduceAppend, decide_true, decide_false, Bool.not_true, Bool.not_false, sz0, sz1, sz2, sz3, sz4, sz5, sz6, sz7, sz8, sz9, sz10, sz11, sz12, sz13, sz14, sz15, sz16, sz17, sz18, sz19, sz20, sz21, sz22, sz23, sz24, sz25, cpow1018, true_and, and_true, Nat.reduceAdd, Nat.reduceLT, Nat.reduceSub, Int.reduceNe, Int.reduceEq, Int.reduceLT, Int.reduceLE, Int.reduceToNat, ne_eq, not_false_eq_true, List.length_map, Nat.lt_irrefl, dV_nx, dV_rt, at0, at1, at2, at3, ix20, ix21, vSeq, vIfS, vTest, vTruth, truth, v2, v1, vN, vCons, vNil, vStar, vVar, vC, xIx, Vl.opI0, Vl.opI, pk, vSet, vAug, vAsg, xgSub, vRet, vRetN, vNext, vDrop, vBreak, vCont, asD, asDs, opMod, opDiv, opMul2, Vl.opAdd, Vl.opAddO, opSub, opPow, opLt, Vl.opLe, opGt, Vl.opGe, xEq, okEq_str, okEq_int, xIn, okIn, inD, xIsN, isNone_n, isNone_t, isNone_l, isNone_i, isNone_s, isMo, mob, pkm, gModI, gDivI, gSubI, gMulI, gPowI, gGt, gLt, gLe, gGe, vNotT, vAndT, vOrT, vAndV, vOrV, opNot, opNotG, vIfE, opTup, opLst, opLstO, Vl.opLen, Vl.opInt, opList, opListO, opTuple, opII, gMax, gMin, vM, vM0, isT, xPop, Vl.opAppend, opExtend, opJoin, vgName, vgTup, vgCons, vgNil, kOpt_some, kOpn_some, kOps_some, Vl.opSum, Vl.opInsert, Vl.opIndex, opDivmod, vSl, vPart, vNoPart, opSl, opSlO, opRev, opCallK, ownD, ownO, objs, renum, uniq, getS, putS, vCall0, vFor, vForW, En.wk, vSeqI, vTupI, vRng1, vRng2, vEnum, vZip, chkOf, vLcK, vYes, finD, finO, En.wipe, wipeE, En.trim, trimS, dropNone, clr_n, clr_v, clr_k, clr_o, wth, Vl.ret, takeS, startV,  List.map_cons, List.map_nil, List.length_cons, List.length_nil, List.cons_append, List.nil_append, List.replicate, List.getElem?_cons_succ, List.getElem?_cons_zero, List.getElem?_nil, List.set_cons_succ, List.set_cons_zero, List.set_nil, List.all_nil, List.all_cons, Bool.true_and, Option.map_some, Option.map_none, if_true, if_false, decide_eq_true_eq, Bool.false_eq_true, List.take_succ_cons, List.take_zero, List.take_nil, List.drop_succ_cons, List.drop_zero, List.drop_nil, reduceIte, reduceCtorEq]
      refine ⟨pn2, by omega, by omega, by omega, ms, rfl, m0, m1, fun x c3 n3 hx ox pn3 => ⟨pn3, by omega, by omega, by omega, ms, rfl, m0, m1, fun y c4 n4 hy oy pn4 => ?_⟩⟩
      cases b with
      | true => exact k (.to x y) c4 n4 (by simp only [Kd.leaves]; omega) ⟨ox, oy⟩ pn4
      | false => exact k (.both x y) c4 n4 (by simp only [Kd.leaves]; omega) ⟨ox, oy⟩ pn4
    obtain rfl | rfl | rfl : q = 0 ∨ q = 1 ∨ q = 2 := by omega
    all_goals simp only [flatD, List.any_cons, List.any_nil, eqv_str, eqv_int, eqv_ti, eqv_it, eqv_st, eqv_ts, cut1, Bool.or_false, Bool.or_true, Bool.and_self, Bool.and_true, Bool.and_false, Bool.false_or, Bool.true_or, and_self, ofs_inj, ofs_app, ofs_len, String.reduceEq, String.reduceNe, String.reduceAppend, decide_true, decide_false, Bool.not_true, Bool.not_false, sz0, sz1, sz2, sz3, sz4, sz5, sz6, sz7, sz8, sz9, sz10, sz11, sz12, sz13, sz14, sz15, sz16, sz17, sz18, sz19, sz20, sz21, sz22, sz23, sz24, sz25, cpow1018, true_and, and_true, Nat.reduceAdd, Nat.reduceLT, Nat.reduceSub, Int.reduceNe, Int.reduceEq, Int.reduceLT, Int.reduceLE, Int.reduceToNat, ne_eq, not_false_eq_true, List.length_map, Nat.lt_irrefl, dV_nx, dV_rt, at0, at1, at2, at3, ix20, ix21, vSeq, vIfS, vTest, vTruth, truth, v2, v1, vN, vCons, vNil, vStar, vVar, vC, xIx, Vl.opI0, Vl.opI, pk, vSet, vAug, vAsg, xgSub, vRet, vRetN, vNext, vDrop, vBreak, vCont, asD, asDs, opMod, opDiv, opMul2, Vl.opAdd, Vl.opAddO, opSub, opPow, opLt, Vl.opLe, opGt, Vl.opGe, xEq, okEq_str, okEq_int, xIn, okIn, inD, xIsN, isNone_n, isNone_t, isNone_l, isNone_i, isNone_s, isMo, mob, pkm, gModI, gDivI, gSubI, gMulI, gPowI, gGt, gLt, gLe, gGe, vNotT, vAndT, vOrT, vAndV, vOrV, opNot, opNotG, vIfE, opTup, opLst, opLstO, Vl.opLen, Vl.opInt, opList, opListO, opTuple, opII, gMax, gMin, vM, vM0, isT, xPop, Vl.opAppend, opExtend, opJoin, vgName, vgTup, vgCons, vgNil, kOpt_some, kOpn_some, kOps_some, Vl.opSum, Vl.opInsert, Vl.opIndex, opDivmod, vSl, vPart, vNoPart, opSl, opSlO, opRev, opCallK, ownD, ownO, objs, renum, uniq, getS, putS, vCall0, vFor, vForW, En.wk, vSeqI, vTupI, vRng1, vRng2, vEnum, vZip, chkOf, vLcK, vYes, finD, finO, En.wipe, wipeE, En.trim, trimS, dropNone, clr_n, clr_v, clr_k, clr_o, wth, Vl.ret, takeS, startV,  List.map_cons, List.map_nil, List.length_cons, List.length_nil, List.cons_append, List.nil_append, List.replicate, List.getElem?_cons_succ, List.getElem?_cons_zero, List.getElem?_nil, List.set_cons_succ, List.set_cons_zero, List.set_nil, List.all_nil, List.all_cons, Bool.true_and, Option.map_some, Option.map_none, if_true, if_false, decide_eq_true_eq, Bool.false_eq_true, List.take_succ_cons, List.take_zero, List.take_nil, List.drop_succ_cons, List.drop_zero, List.drop_nil, reduceIte, reduceCtorEq]
    · exact both true _ _ pn2
    · exact both true _ _ pn2
    · exact both false _ _ pn2
end Kf
namespace Kf
open PySem L2 Vl PySem.Spec PyProof.Rows
abbrev Ct := Str → Nat × Nat
def ctPut (f : Ct) (x : Str) (n : Nat × Nat) : Ct := fun y => if y = x then n else f y
def prD (n : Nat × Nat) : D := .tuple [.int ((n.1 : Nat) : Int), .int ((n.2 : Nat) : Int)]
/-- what k adds -/
def Kd.add : Kd → Bool → Str → Nat × Nat
  | .mark m, s, y => if y = m then (if s then (0, 1) else (1, 0)) else (0, 0)
  | .one, _, _ => (0, 0)
  | .to a b, s, y => ((a.add (!s) y).1 + (b.add s y).1, (a.add (!s) y).2 + (b.add s y).2)
  | .both a b, s, y => ((a.add s y).1 + (b.add s y).1, (a.add s y).2 + (b.add s y).2)
structure MR (kvs : List (Ky × D)) (f : Ct) : Prop where
  nd : (kvs.map (·.1)).Nodup
  get : ∀ x, findK kvs (.inr x) = if f x = (0, 0) then none else some (prD (f x))
  key : ∀ p ∈ kvs, ∃ x, p.1 = .inr x ∧ p.2 = prD (f x) ∧ f x ≠ (0, 0)
theorem MR.nil : MR [] fun _ => (0, 0) := ⟨List.nodup_nil, fun x => by simp [findK], fun p h => by cases h⟩
theorem findK_has {kvs : List (Ky × D)} {k : Ky} {d : D} (h : findK kvs k = some d) : (k, d) ∈ kvs := by
  unfold findK at h
  obtain ⟨p, h1, h2⟩ := Option.map_eq_some_iff.mp h
  have h3 := List.find?_some h1
  have h4 := List.mem_of_find?_eq_some h1
  obtain ⟨a, b⟩ := p
  have : a = k := of_decide_eq_true h3
  subst this
  cases h2
  exact h4
theorem findK_of {kvs : List (Ky × D)} (nd : (kvs.map (·.1)).Nodup) {k : Ky} {d : D} (h : (k, d) ∈ kvs) : findK kvs k = some d := by
  induction kvs with
  | nil => cases h
  | cons p r ih =>
    rw [findK_cons]
    rw [List.map_cons, List.nodup_cons] at nd
    rcases List.mem_cons.mp h with h | h
    · subst h
      rw [if_pos rfl]
    · rw [if_neg (show ¬ p.1 = k from fun e => nd.1 (by rw [e]; exact List.mem_map.mpr ⟨_, h, rfl⟩))]
      exact ih nd.2 h
theorem MR.of {kvs : List (Ky × D)} {f : Ct} (nd : (kvs.map (·.1)).Nodup) (ks : ∀ p ∈ kvs, ∃ x, p.1 = .inr x) (g : ∀ x, findK kvs (.inr x) = if f x = (0, 0) then none else some (prD (f x))) : MR kvs f := by
  refine ⟨nd, g, fun p hp => ?_⟩
  obtain ⟨x, hx⟩ := ks p hp
  obtain ⟨a, b⟩ := p
  cases hx
  have h := findK_of nd hp
  rw [g x] at h
  by_cases c : f x = (0, 0)
  · rw [if_pos c] at h
    cases h
  · rw [if_neg c] at h
    exact ⟨x, rfl, (Option.some.inj h).symm, c⟩
theorem prD_shp (n : Nat × Nat) : PyData.canLay0 (prD n) = true ∧ (prD n).depth ≤ 100 := by
  unfold prD
  rw [can_tup, depth_tup, canAll_cons, canAll_cons, canAll_nil, depthAll_cons, depthAll_cons, depthAll_nil, can_int, can_int, depth_int, depth_int]
  exact ⟨rfl, by decide⟩
theorem MR.shp {kvs : List (Ky × D)} {f : Ct} (h : MR kvs f) : shpM kvs := fun p hp => by
  obtain ⟨x, _, e, _⟩ := h.key p hp
  rw [e]
  exact prD_shp _
theorem nd_len {α : Type} [DecidableEq α] : ∀ {a b : List α}, a.Nodup → (∀ x ∈ a, x ∈ b) → a.length ≤ b.length
  | [], b, _, _ => Nat.zero_le _
  | x :: a, b, nd, h => by
    rw [List.nodup_cons] at nd
    have hx := h x List.mem_cons_self
    have ih := nd_len (a := a) (b := b.erase x) nd.2 fun y hy => (List.mem_erase_of_ne fun e => nd.1 (by rw [← e]; exact hy)).mpr (h y (List.mem_cons_of_mem _ hy))
    rw [List.length_erase_of_mem hx] at ih
    have := List.length_pos_of_mem hx
    rw [List.length_cons]
    omega
theorem MR.eq {ks ls : List (Ky × D)} {f : Ct} (h : MR ks f) (g : MR ls f) : mEq ks ls = true := by
  have sub : ∀ {a b : List (Ky × D)}, MR a f → MR b f → ∀ p ∈ a, p ∈ b := fun {a b} ha hb p hp => by
    obtain ⟨x, e1, e2, ne⟩ := ha.key p hp
    have := hb.get x
    rw [if_neg ne] at this
    have := findK_has this
    obtain ⟨k, d⟩ := p
    cases e1
    cases e2
    exact this
  have len : ks.length = ls.length := by
    have s1 : ∀ k ∈ ks.map (·.1), k ∈ ls.map (·.1) := fun k hk => by
      obtain ⟨p, hp, rfl⟩ := List.mem_map.mp hk
      exact List.mem_map.mpr ⟨p, sub h g p hp, rfl⟩
    have s2 : ∀ k ∈ ls.map (·.1), k ∈ ks.map (·.1) := fun k hk => by
      obtain ⟨p, hp, rfl⟩ := List.mem_map.mp hk
      exact List.mem_map.mpr ⟨p, sub g h p hp, rfl⟩
    have l1 := nd_len h.nd s1
    have l2 := nd_len g.nd s2
    simp only [List.length_map] at l1 l2
    omega
  unfold mEq mAll
  rw [len, beq_self_eq_true, Bool.true_and, List.all_eq_true]
  intro p hp
  have hq := findK_of g.nd (sub h g p hp)
  obtain ⟨x, e1, e2, ne⟩ := h.key p hp
  have : findK ls p.1 = some p.2 := hq
  rw [this]
  exact PySem.SeqAt.eqv_refl _ (by rw [e2]; exact (prD_shp _).1)
end Kf
namespace Kf
open PySem L2 Vl PySem.Spec PyProof.Rows
def t_sidesof_1 : VTS := (vAsg (vIfE (vTest (v2 (xEq false) (vVar 5) (vC (.int 0)))) (vN opTup (vCons (v2 opAdd (vVar 6) (vC (.int 1))) (vCons (vVar 7) vNil))) (vN opTup (vCons (vVar 6) (vCons (v2 opAdd (vVar 7) (vC (.int 1))) vNil)))) (xgDSub (vVar 2) (v2 xIx (vVar 4) (vC (.int 1)))))
def t_sidesof_2 : VTS := vSeq (vAsg (vDGet2 (vVar 2) (v2 xIx (vVar 4) (vC (.int 1))) (vN opTup (vCons (vC (.int 0)) (vCons (vC (.int 0)) vNil)))) (vgTup 2 (vgCons (vgName 6) (vgCons (vgName 7) vgNil)))) (t_sidesof_1)
def t_sidesof_3 : VTS := (vDrop (vM "list" opExtend (vVar 3) (vCons (vN opLst (vCons (vN opTup (vCons (v2 xIx (vVar 4) (vC (.int 1))) (vCons (vIfE (vTest (v2 (xEq false) (vVar 5) (vC (.int 1)))) (vC (.int 0)) (vC (.int 1))) vNil))) (vCons (vN opTup (vCons (v2 xIx (vVar 4) (vC (.int 2))) (vCons (vVar 5) vNil))) vNil))) vNil)))
def t_sidesof_4 : VTS := (vDrop (vM "list" opExtend (vVar 3) (vCons (vN opLst (vCons (vN opTup (vCons (v2 xIx (vVar 4) (vC (.int 1))) (vCons (vVar 5) vNil))) (vCons (vN opTup (vCons (v2 xIx (vVar 4) (vC (.int 2))) (vCons (vVar 5) vNil))) vNil))) vNil)))
def t_sidesof_5 : VTS := (vIfS (vTest (v2 (xEq false) (v2 xIx (vVar 4) (vC (.int 0))) (vC (.str "both")))) (t_sidesof_4) vNext)
def t_sidesof_6 : VTS := (vIfS (vTest (v2 (xEq false) (v2 xIx (vVar 4) (vC (.int 0))) (vC (.str "to")))) (t_sidesof_3) (t_sidesof_5))
def t_sidesof_7 : VTS := (vIfS (vTest (v2 (xEq false) (v2 xIx (vVar 4) (vC (.int 0))) (vC (.str "mark")))) (t_sidesof_2) (t_sidesof_6))
def t_sidesof_8 : VTS := vSeq (vAsg (vM0 "list" xPop (vVar 3)) (vgTup 2 (vgCons (vgName 4) (vgCons (vgName 5) vgNil)))) (t_sidesof_7)
def t_sidesof_9 : VTS := (vRet (vVar 2))
def t_sidesof_10 : VTS := vSeq (vWhileW (vTruth (vVar 3))
      (t_sidesof_8)) (t_sidesof_9)
def t_sidesof_11 : VTS := vSeq (vSet 3 (v2 opAddO (vN opLst (vCons (vN opTup (vCons (vVar 1) (vCons (vC (.int 1)) vNil))) vNil)) (vLcK (vSeqI (vVar 0)) (vgTup 2 (vgCons (vgName 8) (vgCons (vgName 9) vgNil))) vYes (vN opTup (vCons (vVar 9) (vCons (vC (.int 0)) vNil))) [8, 9] finD))) (t_sidesof_10)
def t_sidesof_12 : VTS := vSeq (vSet 2 vDctM) (t_sidesof_11)
def t_sidesof : VTS := (t_sidesof_12)
def t_Lsides_1 : VTS := (vAsg (vN opTuple (vCons (vVar 6) vNil)) (xgDSub (vVar 3) (v2 xIx (vVar 4) (vC (.int 1)))))
def t_Lsides_2 : VTS := vSeq (vAsg (v2 opAdd (v2 xIx (vVar 6) (vVar 5)) (vC (.int 1))) (xgSub (vVar 6) (vVar 5))) (t_Lsides_1)
def t_Lsides_3 : VTS := vSeq (vSet 6 (vN opListO (vCons (vDGet2 (vVar 3) (v2 xIx (vVar 4) (vC (.int 1))) (vN opTup (vCons (vC (.int 0)) (vCons (vC (.int 0)) vNil)))) vNil))) (t_Lsides_2)
def t_Lsides_4 : VTS := (vDrop (vM "list" opExtend (vVar 2) (vCons (vN opLst (vCons (vN opTup (vCons (v2 xIx (vVar 4) (vC (.int 1))) (vCons (v2 opSub (vC (.int 1)) (vVar 5)) vNil))) (vCons (vN opTup (vCons (v2 xIx (vVar 4) (vC (.int 2))) (vCons (vVar 5) vNil))) vNil))) vNil)))
def t_Lsides_5 : VTS := (vDrop (vM "list" opExtend (vVar 2) (vCons (vN opLst (vCons (vN opTup (vCons (v2 xIx (vVar 4) (vC (.int 1))) (vCons (vVar 5) vNil))) (vCons (vN opTup (vCons (v2 xIx (vVar 4) (vC (.int 2))) (vCons (vVar 5) vNil))) vNil))) vNil)))
def t_Lsides_6 : VTS := (vIfS (vTest (v2 (xEq false) (v2 xIx (vVar 4) (vC (.int 0))) (vC (.str "both")))) (t_Lsides_5) vNext)
def t_Lsides_7 : VTS := (vIfS (vTest (v2 (xEq false) (v2 xIx (vVar 4) (vC (.int 0))) (vC (.str "to")))) (t_Lsides_4) (t_Lsides_6))
def t_Lsides_8 : VTS := (vIfS (vTest (v2 (xEq false) (v2 xIx (vVar 4) (vC (.int 0))) (vC (.str "mark")))) (t_Lsides_3) (t_Lsides_7))
def t_Lsides_9 : VTS := vSeq (vAsg (vM0 "list" xPop (vVar 2)) (vgTup 2 (vgCons (vgName 4) (vgCons (vgName 5) vgNil)))) (t_Lsides_8)
def t_Lsides_10 : VTS := (vRet (vVar 3))
def t_Lsides_11 : VTS := vSeq (vWhileW (vTest (v2 (xEq true) (vVar 2) (vN opLst vNil)))
      (t_Lsides_9)) (t_Lsides_10)
def t_Lsides_12 : VTS := vSeq (vSet 3 vDctM) (t_Lsides_11)
def t_Lsides_13 : VTS := vSeq (vSet 2 (v2 opAddO (vLcK (vSeqI (vVar 0)) (vgTup 2 (vgCons (vgName 7) (vgCons (vgName 8) vgNil))) vYes (vN opTup (vCons (vVar 8) (vCons (vC (.int 0)) vNil))) [7, 8] finD) (vN opLst (vCons (vN opTup (vCons (vVar 1) (vCons (vC (.int 1)) vNil))) vNil)))) (t_Lsides_12)
def t_Lsides : VTS := (t_Lsides_13)
end Kf
namespace Kf
open PySem L2 Vl PySem.Spec PyProof.Rows
abbrev Sd := Kd × Bool
def encS (x : Sd) : D := .tuple [x.1.enc, .int (if x.2 then 1 else 0)]
def tot : List Sd → Str → Nat × Nat
  | [], _ => (0, 0)
  | x :: r, y => ((x.1.add x.2 y).1 + (tot r y).1, (x.1.add x.2 y).2 + (tot r y).2)
def mS : List Sd → Nat
  | [] => 0
  | x :: r => (2 * x.1.leaves - 1) + mS r
theorem mS_len : ∀ r : List Sd, r.length ≤ mS r
  | [] => Nat.le_refl _
  | x :: r => by
    have := mS_len r
    have := x.1.leaves_pos
    simp only [List.length_cons, mS]
    omega
/-- the turns' state -/
structure SS (G : Str → Nat × Nat) (todo : List Sd) (kvs : List (Ky × D)) (f : Ct) : Prop where
  mr : MR kvs f
  sum : ∀ y, (f y).1 + (tot todo y).1 = (G y).1 ∧ (f y).2 + (tot todo y).2 = (G y).2
  b : kvs.length + mS todo ≤ 1000000
abbrev eS (d0 d1 : D) (s4 s5 s6 s7 : Option Sl) (todo : List Sd) (kvs : List (Ky × D)) : En := ⟨[some (.val d0), some (.val d1), some (.obj 0), some (.obj 1), s4, s5, s6, s7, none, none], [some (.m kvs), some (.l (todo.reverse.map encS))]⟩
theorem findK_ap2 {β : Type} {a b : List (Ky × β)} {k : Ky} : findK (a ++ b) k = match findK a k with | some x => some x | none => findK b k := by
  induction a with
  | nil => rfl
  | cons p r ih =>
    rw [List.cons_append, findK_cons, findK_cons, ih]
    by_cases e : p.1 = k
    · rw [if_pos e, if_pos e]
    · rw [if_neg e, if_neg e]
theorem putM_fd2 {k k' : Ky} {d : D} : ∀ {kvs : List (Ky × D)}, findK (putM kvs k d) k' = if k' = k then some d else findK kvs k' := by
  have upd : ∀ kvs : List (Ky × D), findK (kvs.map fun kv => if kv.1 = k then (kv.1, d) else kv) k' = if k' = k then (if (kvs.any fun kv => decide (kv.1 = k)) = true then some d else none) else findK kvs k' := by
    intro kvs
    induction kvs with
    | nil => simp [findK]
    | cons p r ih =>
      rw [List.map_cons, findK_cons, ih, findK_cons, List.any_cons]
      by_cases e : k' = k
      · subst e
        by_cases h : p.1 = k'
        · simp [h]
        · rw [if_neg h, if_neg h, if_pos rfl, if_pos rfl, decide_eq_false h, Bool.false_or]
      · by_cases h : p.1 = k
        · have : ¬ k = k' := fun z => e z.symm
          simp [h, e, this]
        · simp [h, e]
  intro kvs
  unfold putM
  split
  · rename_i h
    rw [upd, h]
    simp
  · rename_i h
    rw [findK_ap2]
    have hn : findK kvs k = none := by
      rw [findK_any] at h
      cases q : findK kvs k with
      | none => rfl
      | some x =>
        rw [q] at h
        exact (h rfl).elim
    by_cases e : k' = k
    · subst e
      rw [hn, if_pos rfl, findK_cons, if_pos rfl]
    · rw [if_neg e, findK_cons, if_neg fun z => e z.symm]
      cases findK kvs k' <;> rfl
theorem putM_keys {kvs : List (Ky × D)} {k : Ky} {d : D} : (putM kvs k d).map (·.1) = if (kvs.any fun kv => decide (kv.1 = k)) = true then kvs.map (·.1) else kvs.map (·.1) ++ [k] := by
  unfold putM
  split
  · rw [List.map_map]
    congr 1
    funext p
    simp only [Function.comp]
    split <;> rfl
  · rw [List.map_append]
    rfl
theorem MR.put {kvs : List (Ky × D)} {f : Ct} (h : MR kvs f) (x : Str) {n : Nat × Nat} (hn : n ≠ (0, 0)) : MR (putM kvs (.inr x) (prD n)) (ctPut f x n) := by
  have hk := putM_keys (kvs := kvs) (k := .inr x) (d := prD n)
  refine MR.of ?_ ?_ ?_
  · rw [hk]
    split
    · exact h.nd
    · rename_i c
      rw [List.nodup_append]
      refine ⟨h.nd, by simp, fun a ha b hb e => c ?_⟩
      rw [List.mem_singleton] at hb
      subst hb
      subst e
      obtain ⟨p, hp, hp2⟩ := List.mem_map.mp ha
      exact List.any_eq_true.mpr ⟨p, hp, decide_eq_true hp2⟩
  · intro p hp
    have hm : p.1 ∈ (putM kvs (.inr x) (prD n)).map (·.1) := List.mem_map.mpr ⟨p, hp, rfl⟩
    have old : p.1 ∈ kvs.map (·.1) → ∃ x, p.1 = .inr x := fun hm => by
      obtain ⟨q, hq, e⟩ := List.mem_map.mp hm
      obtain ⟨y, e1, _⟩ := h.key q hq
      exact ⟨y, e ▸ e1⟩
    rw [hk] at hm
    split at hm
    · exact old hm
    · rcases List.mem_append.mp hm with hm | hm
      · exact old hm
      · exact ⟨x, List.mem_singleton.mp hm⟩
  · intro y
    rw [putM_fd2]
    unfold ctPut
    by_cases e : y = x
    · subst e
      rw [if_pos rfl, if_pos rfl, if_neg hn]
    · rw [if_neg fun z => e (Sum.inr.inj z), if_neg e]
      exact h.get y
theorem encS_get {x : Sd} {todo : List Sd} : ((x :: todo).reverse.map encS).getLast? = some (encS x) ∧ ((x :: todo).reverse.map encS).dropLast = todo.reverse.map encS := by simp
theorem sd_one {D0 : VEnds} {G : Str → Nat × Nat} {d0 d1 : D} {k : Kd} {s : Bool} {todo : List Sd} {kvs : List (Ky × D)} {f : Ct} (h : SS G ((k, s) :: todo) kvs f)
    (q : ∀ todo' kvs' f' s4 s5 s6 s7, mS todo' < mS ((k, s) :: todo) → SS G todo' kvs' f' → D0.nx (eS d0 d1 s4 s5 s6 s7 todo' kvs')) :
    t_sidesof_8 D0 (eS d0 d1 none none none none ((k, s) :: todo) kvs) := by
  obtain ⟨e1, e2⟩ := @encS_get (k, s) todo
  have lp := k.leaves_pos
  have lt := mS_len todo
  have hb := h.b
  simp only [mS] at hb
  simp only [t_sidesof_8, e1, e2, encS, flatD, List.any_cons, List.any_nil, eqv_str, eqv_int, eqv_ti, eqv_it, eqv_st, eqv_ts, cut1, Bool.or_false, Bool.or_true, Bool.and_self, Bool.and_true, Bool.and_false, Bool.false_or, Bool.true_or, and_self, ofs_inj, ofs_app, ofs_len, String.reduceEq, String.reduceNe, String.reduceAppend, decide_true, decide_false, Bool.not_true, Bool.not_false, sz0, sz1, sz2, sz3, sz4, sz5, sz6, sz7, sz8, sz9, sz10, sz11, sz12, sz13, sz14, sz15, sz16, sz17, sz18, sz19, sz20, sz21, sz22, sz23, sz24, sz25, cpow1018, true_and, and_true, Nat.reduceAdd, Nat.reduceLT, Nat.reduceSub, Int.reduceNe, Int.reduceEq, Int.reduceLT, Int.reduceLE, Int.reduceToNat, ne_eq, not_false_eq_true, List.length_map, Nat.lt_irrefl, dV_nx, dV_rt, at0, at1, at2, at3, ix20, ix21, vSeq, vIfS, vTest, vTruth, truth, v2, v1, vN, vCons, vNil, vStar, vVar, vC, xIx, Vl.opI0, Vl.opI, pk, vSet, vAug, vAsg, xgSub, vRet, vRetN, vNext_mk, vDrop, vBreak, vCont, asD, asDs, opMod, opDiv, opMul2, Vl.opAdd, Vl.opAddO, opSub, opPow, opLt, Vl.opLe, opGt, Vl.opGe, xEq, okEq_str, okEq_int, xIn, okIn, inD, xIsN, isNone_n, isNone_t, isNone_l, isNone_i, isNone_s, isMo, mob, pkm, gModI, gDivI, gSubI, gMulI, gPowI, gGt, gLt, gLe, gGe, vNotT, vAndT, vOrT, vAndV, vOrV, opNot, opNotG, vIfE, opTup, opLst, opLstO, Vl.opLen, Vl.opInt, opList, opListO, opTuple, opII, gMax, gMin, vM, vM0, isT, xPop, Vl.opAppend, opExtend, opJoin, vgName, vgTup, vgCons, vgNil, kOpt_some, kOpn_some, kOps_some, Vl.opSum, Vl.opInsert, Vl.opIndex, opDivmod, vSl, vPart, vNoPart, opSl, opSlO, opRev, opCallK, ownD, ownO, objs, renum, uniq, getS, putS, vCall0, vFor, vForW, En.wk, vSeqI, vTupI, vRng1, vRng2, vRngD, vFn, vCallL, vOdd, vWays, vEnum, vZip, chkOf, vLcK, vYes, finD, finO, En.wipe, wipeE, En.trim, trimS, dropNone, clr_n, clr_v, clr_k, clr_o, wth, Vl.ret, takeS, startV,  List.map_cons, List.map_nil, List.length_cons, List.length_nil, List.cons_append, List.nil_append, List.replicate, List.getElem?_cons_succ, List.getElem?_cons_zero, List.getElem?_nil, List.set_cons_succ, List.set_cons_zero, List.set_nil, List.all_nil, List.all_cons, Bool.true_and, Option.map_some, Option.map_none, if_true, if_false, decide_eq_true_eq, Bool.false_eq_true, List.take_succ_cons, List.take_zero, List.take_nil, List.drop_succ_cons, List.drop_zero, List.drop_nil, reduceIte, reduceCtorEq]
  cases k with
  | one =>
    simp only [t_sidesof_7, t_sidesof_6, t_sidesof_5, Kd.enc, flatD, List.any_cons, List.any_nil, eqv_str, eqv_int, eqv_ti, eqv_it, eqv_st, eqv_ts, cut1, Bool.or_false, Bool.or_true, Bool.and_self, Bool.and_true, Bool.and_false, Bool.false_or, Bool.true_or, and_self, ofs_inj, ofs_app, ofs_len, String.reduceEq, String.reduceNe, String.reduceAppend, decide_true, decide_false, Bool.not_true, Bool.not_false, sz0, sz1, sz2, sz3, sz4, sz5, sz6, sz7, sz8, sz9, sz10, sz11, sz12, sz13, sz14, sz15, sz16, sz17, sz18, sz19, sz20, sz21, sz22, sz23, sz24, sz25, cpow1018, true_and, and_true, Nat.reduceAdd, Nat.reduceLT, Nat.reduceSub, Int.reduceNe, Int.reduceEq, Int.reduceLT, Int.reduceLE, Int.reduceToNat, ne_eq, not_false_eq_true, List.length_map, Nat.lt_irrefl, dV_nx, dV_rt, at0, at1, at2, at3, ix20, ix21, vSeq, vIfS, vTest, vTruth, truth, v2, v1, vN, vCons, vNil, vStar, vVar, vC, xIx, Vl.opI0, Vl.opI, pk, vSet, vAug, vAsg, xgSub, vRet, vRetN, vNext_mk, vDrop, vBreak, vCont, asD, asDs, opMod, opDiv, opMul2, Vl.opAdd, Vl.opAddO, opSub, opPow, opLt, Vl.opLe, opGt, Vl.opGe, xEq, okEq_str, okEq_int, xIn, okIn, inD, xIsN, isNone_n, isNone_t, isNone_l, isNone_i, isNone_s, isMo, mob, pkm, gModI, gDivI, gSubI, gMulI, gPowI, gGt, gLt, gLe, gGe, vNotT, vAndT, vOrT, vAndV, vOrV, opNot, opNotG, vIfE, opTup, opLst, opLstO, Vl.opLen, Vl.opInt, opList, opListO, opTuple, opII, gMax, gMin, vM, vM0, isT, xPop, Vl.opAppend, opExtend, opJoin, vgName, vgTup, vgCons, vgNil, kOpt_some, kOpn_some, kOps_some, Vl.opSum, Vl.opInsert, Vl.opIndex, opDivmod, vSl, vPart, vNoPart, opSl, opSlO, opRev, opCallK, ownD, ownO, objs, renum, uniq, getS, putS, vCall0, vFor, vForW, En.wk, vSeqI, vTupI, vRng1, vRng2, vRngD, vFn, vCallL, vOdd, vWays, vEnum, vZip, chkOf, vLcK, vYes, finD, finO, En.wipe, wipeE, En.trim, trimS, dropNone, clr_n, clr_v, clr_k, clr_o, wth, Vl.ret, takeS, startV,  List.map_cons, List.map_nil, List.length_cons, List.length_nil, List.cons_append, List.nil_append, List.replicate, List.getElem?_cons_succ, List.getElem?_cons_zero, List.getElem?_nil, List.set_cons_succ, List.set_cons_zero, List.set_nil, List.all_nil, List.all_cons, Bool.true_and, Option.map_some, Option.map_none, if_true, if_false, decide_eq_true_eq, Bool.false_eq_true, List.take_succ_cons, List.take_zero, List.take_nil, List.drop_succ_cons, List.drop_zero, List.drop_nil, reduceIte, reduceCtorEq]
    refine q todo kvs f _ _ _ _ (by simp only [mS]; omega) ⟨h.mr, fun y => ?_, by omega⟩
    have := h.sum y
    simp only [tot, Kd.add] at this
    omega
  | to a b =>
    have la := a.leaves_pos
    have lb := b.leaves_pos
    simp only [Kd.leaves] at hb
    have fin : D0.nx (eS d0 d1 (some (.val (Kd.to a b).enc)) (some (.val (.int (if s then 1 else 0)))) none none ((b, s) :: (a, !s) :: todo) kvs) := q _ kvs f _ _ _ _ (by simp only [mS, Kd.leaves]; omega) ⟨h.mr, fun y => by
      have := h.sum y
      simp only [tot, Kd.add] at this ⊢
      omega, by simp only [mS]; omega⟩
    have em : ((b, s) :: (a, !s) :: todo).reverse.map encS = todo.reverse.map encS ++ [encS (a, !s), encS (b, s)] := by simp
    have lm : (todo.reverse.map encS).length = todo.length := by simp
    simp only [eS, em] at fin
    cases s with
    | true =>
      simp only [t_sidesof_7, t_sidesof_6, t_sidesof_3, Kd.enc, lm, flatD, List.any_cons, List.any_nil, eqv_str, eqv_int, eqv_ti, eqv_it, eqv_st, eqv_ts, cut1, Bool.or_false, Bool.or_true, Bool.and_self, Bool.and_true, Bool.and_false, Bool.false_or, Bool.true_or, and_self, ofs_inj, ofs_app, ofs_len, String.reduceEq, String.reduceNe, String.reduceAppend, decide_true, decide_false, Bool.not_true, Bool.not_false, sz0, sz1, sz2, sz3, sz4, sz5, sz6, sz7, sz8, sz9, sz10, sz11, sz12, sz13, sz14, sz15, sz16, sz17, sz18, sz19, sz20, sz21, sz22, sz23, sz24, sz25, cpow1018, true_and, and_true, Nat.reduceAdd, Nat.reduceLT, Nat.reduceSub, Int.reduceNe, Int.reduceEq, Int.reduceLT, Int.reduceLE, Int.reduceToNat, ne_eq, not_false_eq_true, List.length_map, Nat.lt_irrefl, dV_nx, dV_rt, at0, at1, at2, at3, ix20, ix21, vSeq, vIfS, vTest, vTruth, truth, v2, v1, vN, vCons, vNil, vStar, vVar, vC, xIx, Vl.opI0, Vl.opI, pk, vSet, vAug, vAsg, xgSub, vRet, vRetN, vNext_mk, vDrop, vBreak, vCont, asD, asDs, opMod, opDiv, opMul2, Vl.opAdd, Vl.opAddO, opSub, opPow, opLt, Vl.opLe, opGt, Vl.opGe, xEq, okEq_str, okEq_int, xIn, okIn, inD, xIsN, isNone_n, isNone_t, isNone_l, isNone_i, isNone_s, isMo, mob, pkm, gModI, gDivI, gSubI, gMulI, gPowI, gGt, gLt, gLe, gGe, vNotT, vAndT, vOrT, vAndV, vOrV, opNot, opNotG, vIfE, opTup, opLst, opLstO, Vl.opLen, Vl.opInt, opList, opListO, opTuple, opII, gMax, gMin, vM, vM0, isT, xPop, Vl.opAppend, opExtend, opJoin, vgName, vgTup, vgCons, vgNil, kOpt_some, kOpn_some, kOps_some, Vl.opSum, Vl.opInsert, Vl.opIndex, opDivmod, vSl, vPart, vNoPart, opSl, opSlO, opRev, opCallK, ownD, ownO, objs, renum, uniq, getS, putS, vCall0, vFor, vForW, En.wk, vSeqI, vTupI, vRng1, vRng2, vRngD, vFn, vCallL, vOdd, vWays, vEnum, vZip, chkOf, vLcK, vYes, finD, finO, En.wipe, wipeE, En.trim, trimS, dropNone, clr_n, clr_v, clr_k, clr_o, wth, Vl.ret, takeS, startV,  List.map_cons, List.map_nil, List.length_cons, List.length_nil, List.cons_append, List.nil_append, List.replicate, List.getElem?_cons_succ, List.getElem?_cons_zero, List.getElem?_nil, List.set_cons_succ, List.set_cons_zero, List.set_nil, List.all_nil, List.all_cons, Bool.true_and, Option.map_some, Option.map_none, if_true, if_false, decide_eq_true_eq, Bool.false_eq_true, List.take_succ_cons, List.take_zero, List.take_nil, List.drop_succ_cons, List.drop_zero, List.drop_nil, reduceIte, reduceCtorEq]
      exact ⟨bigl (by omega), fin⟩
    | false =>
      simp only [t_sidesof_7, t_sidesof_6, t_sidesof_3, Kd.enc, lm, flatD, List.any_cons, List.any_nil, eqv_str, eqv_int, eqv_ti, eqv_it, eqv_st, eqv_ts, cut1, Bool.or_false, Bool.or_true, Bool.and_self, Bool.and_true, Bool.and_false, Bool.false_or, Bool.true_or, and_self, ofs_inj, ofs_app, ofs_len, String.reduceEq, String.reduceNe, String.reduceAppend, decide_true, decide_false, Bool.not_true, Bool.not_false, sz0, sz1, sz2, sz3, sz4, sz5, sz6, sz7, sz8, sz9, sz10, sz11, sz12, sz13, sz14, sz15, sz16, sz17, sz18, sz19, sz20, sz21, sz22, sz23, sz24, sz25, cpow1018, true_and, and_true, Nat.reduceAdd, Nat.reduceLT, Nat.reduceSub, Int.reduceNe, Int.reduceEq, Int.reduceLT, Int.reduceLE, Int.reduceToNat, ne_eq, not_false_eq_true, List.length_map, Nat.lt_irrefl, dV_nx, dV_rt, at0, at1, at2, at3, ix20, ix21, vSeq, vIfS, vTest, vTruth, truth, v2, v1, vN, vCons, vNil, vStar, vVar, vC, xIx, Vl.opI0, Vl.opI, pk, vSet, vAug, vAsg, xgSub, vRet, vRetN, vNext_mk, vDrop, vBreak, vCont, asD, asDs, opMod, opDiv, opMul2, Vl.opAdd, Vl.opAddO, opSub, opPow, opLt, Vl.opLe, opGt, Vl.opGe, xEq, okEq_str, okEq_int, xIn, okIn, inD, xIsN, isNone_n, isNone_t, isNone_l, isNone_i, isNone_s, isMo, mob, pkm, gModI, gDivI, gSubI, gMulI, gPowI, gGt, gLt, gLe, gGe, vNotT, vAndT, vOrT, vAndV, vOrV, opNot, opNotG, vIfE, opTup, opLst, opLstO, Vl.opLen, Vl.opInt, opList, opListO, opTuple, opII, gMax, gMin, vM, vM0, isT, xPop, Vl.opAppend, opExtend, opJoin, vgName, vgTup, vgCons, vgNil, kOpt_some, kOpn_some, kOps_some, Vl.opSum, Vl.opInsert, Vl.opIndex, opDivmod, vSl, vPart, vNoPart, opSl, opSlO, opRev, opCallK, ownD, ownO, objs, renum, uniq, getS, putS, vCall0, vFor, vForW, En.wk, vSeqI, vTupI, vRng1, vRng2, vRngD, vFn, vCallL, vOdd, vWays, vEnum, vZip, chkOf, vLcK, vYes, finD, finO, En.wipe, wipeE, En.trim, trimS, dropNone, clr_n, clr_v, clr_k, clr_o, wth, Vl.ret, takeS, startV,  List.map_cons, List.map_nil, List.length_cons, List.length_nil, List.cons_append, List.nil_append, List.replicate, List.getElem?_cons_succ, List.getElem?_cons_zero, List.getElem?_nil, List.set_cons_succ, List.set_cons_zero, List.set_nil, List.all_nil, List.all_cons, Bool.true_and, Option.map_some, Option.map_none, if_true, if_false, decide_eq_true_eq, Bool.false_eq_true, List.take_succ_cons, List.take_zero, List.take_nil, List.drop_succ_cons, List.drop_zero, List.drop_nil, reduceIte, reduceCtorEq]
      exact ⟨bigl (by omega), fin⟩
  | both a b =>
    have la := a.leaves_pos
    have lb := b.leaves_pos
    simp only [Kd.leaves] at hb
    have fin : D0.nx (eS d0 d1 (some (.val (Kd.both a b).enc)) (some (.val (.int (if s then 1 else 0)))) none none ((b, s) :: (a, s) :: todo) kvs) := q _ kvs f _ _ _ _ (by simp only [mS, Kd.leaves]; omega) ⟨h.mr, fun y => by
      have := h.sum y
      simp only [tot, Kd.add] at this ⊢
      omega, by simp only [mS]; omega⟩
    have em : ((b, s) :: (a, s) :: todo).reverse.map encS = todo.reverse.map encS ++ [encS (a, s), encS (b, s)] := by simp
    have lm : (todo.reverse.map encS).length = todo.length := by simp
    simp only [eS, em] at fin
    simp only [t_sidesof_7, t_sidesof_6, t_sidesof_5, t_sidesof_4, Kd.enc, lm, flatD, List.any_cons, List.any_nil, eqv_str, eqv_int, eqv_ti, eqv_it, eqv_st, eqv_ts, cut1, Bool.or_false, Bool.or_true, Bool.and_self, Bool.and_true, Bool.and_false, Bool.false_or, Bool.true_or, and_self, ofs_inj, ofs_app, ofs_len, String.reduceEq, String.reduceNe, String.reduceAppend, decide_true, decide_false, Bool.not_true, Bool.not_false, sz0, sz1, sz2, sz3, sz4, sz5, sz6, sz7, sz8, sz9, sz10, sz11, sz12, sz13, sz14, sz15, sz16, sz17, sz18, sz19, sz20, sz21, sz22, sz23, sz24, sz25, cpow1018, true_and, and_true, Nat.reduceAdd, Nat.reduceLT, Nat.reduceSub, Int.reduceNe, Int.reduceEq, Int.reduceLT, Int.reduceLE, Int.reduceToNat, ne_eq, not_false_eq_true, List.length_map, Nat.lt_irrefl, dV_nx, dV_rt, at0, at1, at2, at3, ix20, ix21, vSeq, vIfS, vTest, vTruth, truth, v2, v1, vN, vCons, vNil, vStar, vVar, vC, xIx, Vl.opI0, Vl.opI, pk, vSet, vAug, vAsg, xgSub, vRet, vRetN, vNext_mk, vDrop, vBreak, vCont, asD, asDs, opMod, opDiv, opMul2, Vl.opAdd, Vl.opAddO, opSub, opPow, opLt, Vl.opLe, opGt, Vl.opGe, xEq, okEq_str, okEq_int, xIn, okIn, inD, xIsN, isNone_n, isNone_t, isNone_l, isNone_i, isNone_s, isMo, mob, pkm, gModI, gDivI, gSubI, gMulI, gPowI, gGt, gLt, gLe, gGe, vNotT, vAndT, vOrT, vAndV, vOrV, opNot, opNotG, vIfE, opTup, opLst, opLstO, Vl.opLen, Vl.opInt, opList, opListO, opTuple, opII, gMax, gMin, vM, vM0, isT, xPop, Vl.opAppend, opExtend, opJoin, vgName, vgTup, vgCons, vgNil, kOpt_some, kOpn_some, kOps_some, Vl.opSum, Vl.opInsert, Vl.opIndex, opDivmod, vSl, vPart, vNoPart, opSl, opSlO, opRev, opCallK, ownD, ownO, objs, renum, uniq, getS, putS, vCall0, vFor, vForW, En.wk, vSeqI, vTupI, vRng1, vRng2, vRngD, vFn, vCallL, vOdd, vWays, vEnum, vZip, chkOf, vLcK, vYes, finD, finO, En.wipe, wipeE, En.trim, trimS, dropNone, clr_n, clr_v, clr_k, clr_o, wth, Vl.ret, takeS, startV,  List.map_cons, List.map_nil, List.length_cons, List.length_nil, List.cons_append, List.nil_append, List.replicate, List.getElem?_cons_succ, List.getElem?_cons_zero, List.getElem?_nil, List.set_cons_succ, List.set_cons_zero, List.set_nil, List.all_nil, List.all_cons, Bool.true_and, Option.map_some, Option.map_none, if_true, if_false, decide_eq_true_eq, Bool.false_eq_true, List.take_succ_cons, List.take_zero, List.take_nil, List.drop_succ_cons, List.drop_zero, List.drop_nil, reduceIte, reduceCtorEq]
    exact ⟨bigl (by omega), fin⟩
  | mark m =>
    have g : (Option.map Sl.val (findK kvs (Sum.inr m))).getD (Sl.val (PyData.tuple [PyData.int 0, PyData.int 0])) = .val (prD (f m)) := by
      rw [h.mr.get m]
      by_cases c : f m = (0, 0)
      · rw [if_pos c, c]; rfl
      · rw [if_neg c]; rfl
    have fin : ∀ n : Nat × Nat, n = (if s then ((f m).1, (f m).2 + 1) else ((f m).1 + 1, (f m).2)) → ∀ s4 s5 s6 s7, kvs.length < sizeLine ∧ D0.nx (eS d0 d1 s4 s5 s6 s7 todo (putM kvs (.inr m) (prD n))) := by
      intro n hn s4 s5 s6 s7
      have n0 : n ≠ (0, 0) := by
        rw [hn]
        cases s <;> simp
      refine ⟨bigl (by simp only [Kd.leaves] at hb; omega), q todo _ (ctPut f m n) _ _ _ _ (by simp only [mS]; omega) ⟨h.mr.put m n0, fun y => ?_, ?_⟩⟩
      · have := h.sum y
        simp only [tot, Kd.add] at this
        unfold ctPut
        by_cases e : y = m
        · subst e
          rw [if_pos rfl, hn]
          cases s
          · simp only [if_true, Bool.false_eq_true, if_false] at this ⊢
            omega
          · simp only [if_true] at this ⊢
            omega
        · rw [if_neg e]
          simp only [if_neg e] at this
          omega
      · have := congrArg List.length (putM_keys (kvs := kvs) (k := .inr m) (d := prD n))
        simp only [List.length_map] at this
        simp only [Kd.leaves] at hb
        split at this
        · simp only [List.length_map] at this; omega
        · simp only [List.length_append, List.length_map, List.length_singleton] at this; omega
    simp only [t_sidesof_7, t_sidesof_2, Kd.enc, vDGet2, dGetO, isDO, dKey, flatD, List.any_cons, List.any_nil, eqv_str, eqv_int, eqv_ti, eqv_it, eqv_st, eqv_ts, cut1, Bool.or_false, Bool.or_true, Bool.and_self, Bool.and_true, Bool.and_false, Bool.false_or, Bool.true_or, and_self, ofs_inj, ofs_app, ofs_len, String.reduceEq, String.reduceNe, String.reduceAppend, decide_true, decide_false, Bool.not_true, Bool.not_false, sz0, sz1, sz2, sz3, sz4, sz5, sz6, sz7, sz8, sz9, sz10, sz11, sz12, sz13, sz14, sz15, sz16, sz17, sz18, sz19, sz20, sz21, sz22, sz23, sz24, sz25, cpow1018, true_and, and_true, Nat.reduceAdd, Nat.reduceLT, Nat.reduceSub, Int.reduceNe, Int.reduceEq, Int.reduceLT, Int.reduceLE, Int.reduceToNat, ne_eq, not_false_eq_true, List.length_map, Nat.lt_irrefl, dV_nx, dV_rt, at0, at1, at2, at3, ix20, ix21, vSeq, vIfS, vTest, vTruth, truth, v2, v1, vN, vCons, vNil, vStar, vVar, vC, xIx, Vl.opI0, Vl.opI, pk, vSet, vAug, vAsg, xgSub, vRet, vRetN, vNext_mk, vDrop, vBreak, vCont, asD, asDs, opMod, opDiv, opMul2, Vl.opAdd, Vl.opAddO, opSub, opPow, opLt, Vl.opLe, opGt, Vl.opGe, xEq, okEq_str, okEq_int, xIn, okIn, inD, xIsN, isNone_n, isNone_t, isNone_l, isNone_i, isNone_s, isMo, mob, pkm, gModI, gDivI, gSubI, gMulI, gPowI, gGt, gLt, gLe, gGe, vNotT, vAndT, vOrT, vAndV, vOrV, opNot, opNotG, vIfE, opTup, opLst, opLstO, Vl.opLen, Vl.opInt, opList, opListO, opTuple, opII, gMax, gMin, vM, vM0, isT, xPop, Vl.opAppend, opExtend, opJoin, vgName, vgTup, vgCons, vgNil, kOpt_some, kOpn_some, kOps_some, Vl.opSum, Vl.opInsert, Vl.opIndex, opDivmod, vSl, vPart, vNoPart, opSl, opSlO, opRev, opCallK, ownD, ownO, objs, renum, uniq, getS, putS, vCall0, vFor, vForW, En.wk, vSeqI, vTupI, vRng1, vRng2, vRngD, vFn, vCallL, vOdd, vWays, vEnum, vZip, chkOf, vLcK, vYes, finD, finO, En.wipe, wipeE, En.trim, trimS, dropNone, clr_n, clr_v, clr_k, clr_o, wth, Vl.ret, takeS, startV,  List.map_cons, List.map_nil, List.length_cons, List.length_nil, List.cons_append, List.nil_append, List.replicate, List.getElem?_cons_succ, List.getElem?_cons_zero, List.getElem?_nil, List.set_cons_succ, List.set_cons_zero, List.set_nil, List.all_nil, List.all_cons, Bool.true_and, Option.map_some, Option.map_none, if_true, if_false, decide_eq_true_eq, Bool.false_eq_true, List.take_succ_cons, List.take_zero, List.take_nil, List.drop_succ_cons, List.drop_zero, List.drop_nil, reduceIte, reduceCtorEq]
    rw [g]
    cases s with
    | true =>
      have k := fin _ rfl
      simp only [if_true, prD, eS] at k
      simp only [prD, t_sidesof_1, xgDSub, dKey, flatD, List.any_cons, List.any_nil, eqv_str, eqv_int, eqv_ti, eqv_it, eqv_st, eqv_ts, cut1, Bool.or_false, Bool.or_true, Bool.and_self, Bool.and_true, Bool.and_false, Bool.false_or, Bool.true_or, and_self, ofs_inj, ofs_app, ofs_len, String.reduceEq, String.reduceNe, String.reduceAppend, decide_true, decide_false, Bool.not_true, Bool.not_false, sz0, sz1, sz2, sz3, sz4, sz5, sz6, sz7, sz8, sz9, sz10, sz11, sz12, sz13, sz14, sz15, sz16, sz17, sz18, sz19, sz20, sz21, sz22, sz23, sz24, sz25, cpow1018, true_and, and_true, Nat.reduceAdd, Nat.reduceLT, Nat.reduceSub, Int.reduceNe, Int.reduceEq, Int.reduceLT, Int.reduceLE, Int.reduceToNat, ne_eq, not_false_eq_true, List.length_map, Nat.lt_irrefl, dV_nx, dV_rt, at0, at1, at2, at3, ix20, ix21, vSeq, vIfS, vTest, vTruth, truth, v2, v1, vN, vCons, vNil, vStar, vVar, vC, xIx, Vl.opI0, Vl.opI, pk, vSet, vAug, vAsg, xgSub, vRet, vRetN, vNext_mk, vDrop, vBreak, vCont, asD, asDs, opMod, opDiv, opMul2, Vl.opAdd, Vl.opAddO, opSub, opPow, opLt, Vl.opLe, opGt, Vl.opGe, xEq, okEq_str, okEq_int, xIn, okIn, inD, xIsN, isNone_n, isNone_t, isNone_l, isNone_i, isNone_s, isMo, mob, pkm, gModI, gDivI, gSubI, gMulI, gPowI, gGt, gLt, gLe, gGe, vNotT, vAndT, vOrT, vAndV, vOrV, opNot, opNotG, vIfE, opTup, opLst, opLstO, Vl.opLen, Vl.opInt, opList, opListO, opTuple, opII, gMax, gMin, vM, vM0, isT, xPop, Vl.opAppend, opExtend, opJoin, vgName, vgTup, vgCons, vgNil, kOpt_some, kOpn_some, kOps_some, Vl.opSum, Vl.opInsert, Vl.opIndex, opDivmod, vSl, vPart, vNoPart, opSl, opSlO, opRev, opCallK, ownD, ownO, objs, renum, uniq, getS, putS, vCall0, vFor, vForW, En.wk, vSeqI, vTupI, vRng1, vRng2, vRngD, vFn, vCallL, vOdd, vWays, vEnum, vZip, chkOf, vLcK, vYes, finD, finO, En.wipe, wipeE, En.trim, trimS, dropNone, clr_n, clr_v, clr_k, clr_o, wth, Vl.ret, takeS, startV,  List.map_cons, List.map_nil, List.length_cons, List.length_nil, List.cons_append, List.nil_append, List.replicate, List.getElem?_cons_succ, List.getElem?_cons_zero, List.getElem?_nil, List.set_cons_succ, List.set_cons_zero, List.set_nil, List.all_nil, List.all_cons, Bool.true_and, Option.map_some, Option.map_none, if_true, if_false, decide_eq_true_eq, Bool.false_eq_true, List.take_succ_cons, List.take_zero, List.take_nil, List.drop_succ_cons, List.drop_zero, List.drop_nil, reduceIte, reduceCtorEq]
      exact k _ _ _ _
    | false =>
      have k := fin _ rfl
      simp only [Bool.false_eq_true, if_false, prD, eS] at k
      simp only [prD, t_sidesof_1, xgDSub, dKey, flatD, List.any_cons, List.any_nil, eqv_str, eqv_int, eqv_ti, eqv_it, eqv_st, eqv_ts, cut1, Bool.or_false, Bool.or_true, Bool.and_self, Bool.and_true, Bool.and_false, Bool.false_or, Bool.true_or, and_self, ofs_inj, ofs_app, ofs_len, String.reduceEq, String.reduceNe, String.reduceAppend, decide_true, decide_false, Bool.not_true, Bool.not_false, sz0, sz1, sz2, sz3, sz4, sz5, sz6, sz7, sz8, sz9, sz10, sz11, sz12, sz13, sz14, sz15, sz16, sz17, sz18, sz19, sz20, sz21, sz22, sz23, sz24, sz25, cpow1018, true_and, and_true, Nat.reduceAdd, Nat.reduceLT, Nat.reduceSub, Int.reduceNe, Int.reduceEq, Int.reduceLT, Int.reduceLE, Int.reduceToNat, ne_eq, not_false_eq_true, List.length_map, Nat.lt_irrefl, dV_nx, dV_rt, at0, at1, at2, at3, ix20, ix21, vSeq, vIfS, vTest, vTruth, truth, v2, v1, vN, vCons, vNil, vStar, vVar, vC, xIx, Vl.opI0, Vl.opI, pk, vSet, vAug, vAsg, xgSub, vRet, vRetN, vNext_mk, vDrop, vBreak, vCont, asD, asDs, opMod, opDiv, opMul2, Vl.opAdd, Vl.opAddO, opSub, opPow, opLt, Vl.opLe, opGt, Vl.opGe, xEq, okEq_str, okEq_int, xIn, okIn, inD, xIsN, isNone_n, isNone_t, isNone_l, isNone_i, isNone_s, isMo, mob, pkm, gModI, gDivI, gSubI, gMulI, gPowI, gGt, gLt, gLe, gGe, vNotT, vAndT, vOrT, vAndV, vOrV, opNot, opNotG, vIfE, opTup, opLst, opLstO, Vl.opLen, Vl.opInt, opList, opListO, opTuple, opII, gMax, gMin, vM, vM0, isT, xPop, Vl.opAppend, opExtend, opJoin, vgName, vgTup, vgCons, vgNil, kOpt_some, kOpn_some, kOps_some, Vl.opSum, Vl.opInsert, Vl.opIndex, opDivmod, vSl, vPart, vNoPart, opSl, opSlO, opRev, opCallK, ownD, ownO, objs, renum, uniq, getS, putS, vCall0, vFor, vForW, En.wk, vSeqI, vTupI, vRng1, vRng2, vRngD, vFn, vCallL, vOdd, vWays, vEnum, vZip, chkOf, vLcK, vYes, finD, finO, En.wipe, wipeE, En.trim, trimS, dropNone, clr_n, clr_v, clr_k, clr_o, wth, Vl.ret, takeS, startV,  List.map_cons, List.map_nil, List.length_cons, List.length_nil, List.cons_append, List.nil_append, List.replicate, List.getElem?_cons_succ, List.getElem?_cons_zero, List.getElem?_nil, List.set_cons_succ, List.set_cons_zero, List.set_nil, List.all_nil, List.all_cons, Bool.true_and, Option.map_some, Option.map_none, if_true, if_false, decide_eq_true_eq, Bool.false_eq_true, List.take_succ_cons, List.take_zero, List.take_nil, List.drop_succ_cons, List.drop_zero, List.drop_nil, reduceIte, reduceCtorEq]
      exact k _ _ _ _
end Kf
namespace Kf
open PySem L2 Vl PySem.Spec PyProof.Rows
def rowSd (r : List (Str × Kd)) : List Sd := r.map fun x => (x.2, false)
/-- what a row and a kind tell of each mark -/
def ctAll (r : List (Str × Kd)) (k : Kd) (y : Str) : Nat × Nat := ((k.add true y).1 + (tot (rowSd r) y).1, (k.add true y).2 + (tot (rowSd r) y).2)
def pSides : VSp := fun ss st Kp => ∃ (r : List (Str × Kd)) (k : Kd), ss = [.val (.list (r.map encB)), .val k.enc] ∧ st = [] ∧ mS ((k, true) :: rowSd r) ≤ 1000000 ∧ ∀ kvs, MR kvs (ctAll r k) → Kp (.obj 0) [.m kvs]
theorem tot_app (a b : List Sd) (y : Str) : tot (a ++ b) y = ((tot a y).1 + (tot b y).1, (tot a y).2 + (tot b y).2) := by
  induction a with
  | nil => simp [tot]
  | cons x a ih => simp only [List.cons_append, tot, ih, Prod.mk.injEq]; omega
theorem tot_rev (a : List Sd) (y : Str) : tot a.reverse y = tot a y := by
  induction a with
  | nil => rfl
  | cons x a ih =>
    rw [List.reverse_cons, tot_app, ih]
    simp only [tot, Prod.mk.injEq]
    omega
theorem mS_app (a b : List Sd) : mS (a ++ b) = mS a + mS b := by
  induction a with
  | nil => simp [mS]
  | cons x a ih => simp only [List.cons_append, mS, ih]; omega
theorem mS_rev (a : List Sd) : mS a.reverse = mS a := by
  induction a with
  | nil => rfl
  | cons x a ih =>
    rw [List.reverse_cons, mS_app, ih]
    simp only [mS]
    omega
theorem r_sides {ss cs Kp} (h : pSides ss cs Kp) : t_sidesof (dV cs.length Kp) ⟨startV 10 ss, cs.map some⟩ := by
  obtain ⟨r, k, rfl, rfl, hb, q⟩ := h
  have ml := mS_len (rowSd r)
  have rl : (rowSd r).length = r.length := List.length_map _
  simp only [mS] at hb
  simp only [t_sidesof, t_sidesof_12, t_sidesof_11, flatD, List.any_cons, List.any_nil, eqv_str, eqv_int, eqv_ti, eqv_it, eqv_st, eqv_ts, cut1, Bool.or_false, Bool.or_true, Bool.and_self, Bool.and_true, Bool.and_false, Bool.false_or, Bool.true_or, and_self, ofs_inj, ofs_app, ofs_len, String.reduceEq, String.reduceNe, String.reduceAppend, decide_true, decide_false, Bool.not_true, Bool.not_false, sz0, sz1, sz2, sz3, sz4, sz5, sz6, sz7, sz8, sz9, sz10, sz11, sz12, sz13, sz14, sz15, sz16, sz17, sz18, sz19, sz20, sz21, sz22, sz23, sz24, sz25, cpow1018, true_and, and_true, Nat.reduceAdd, Nat.reduceLT, Nat.reduceSub, Int.reduceNe, Int.reduceEq, Int.reduceLT, Int.reduceLE, Int.reduceToNat, ne_eq, not_false_eq_true, List.length_map, Nat.lt_irrefl, dV_nx, dV_rt, at0, at1, at2, at3, ix20, ix21, vSeq, vIfS, vTest, vTruth, truth, v2, v1, vN, vCons, vNil, vStar, vVar, vC, xIx, Vl.opI0, Vl.opI, pk, vSet, vAug, vAsg, xgSub, vRet, vRetN, vNext_mk, vDrop, vBreak, vCont, asD, asDs, opMod, opDiv, opMul2, Vl.opAdd, Vl.opAddO, opSub, opPow, opLt, Vl.opLe, opGt, Vl.opGe, xEq, okEq_str, okEq_int, xIn, okIn, inD, xIsN, isNone_n, isNone_t, isNone_l, isNone_i, isNone_s, isMo, mob, pkm, gModI, gDivI, gSubI, gMulI, gPowI, gGt, gLt, gLe, gGe, vNotT, vAndT, vOrT, vAndV, vOrV, opNot, opNotG, vIfE, opTup, opLst, opLstO, Vl.opLen, Vl.opInt, opList, opListO, opTuple, opII, gMax, gMin, vM, vM0, isT, xPop, Vl.opAppend, opExtend, opJoin, vgName, vgTup, vgCons, vgNil, kOpt_some, kOpn_some, kOps_some, Vl.opSum, Vl.opInsert, Vl.opIndex, opDivmod, vSl, vPart, vNoPart, opSl, opSlO, opRev, opCallK, ownD, ownO, objs, renum, uniq, getS, putS, vCall0, vFor, vForW, En.wk, vSeqI, vTupI, vRng1, vRng2, vRngD, vFn, vCallL, vOdd, vWays, vEnum, vZip, chkOf, vLcK, vYes, finD, finO, En.wipe, wipeE, En.trim, trimS, dropNone, clr_n, clr_v, clr_k, clr_o, wth, Vl.ret, takeS, startV,  List.map_cons, List.map_nil, List.length_cons, List.length_nil, List.cons_append, List.nil_append, List.replicate, List.getElem?_cons_succ, List.getElem?_cons_zero, List.getElem?_nil, List.set_cons_succ, List.set_cons_zero, List.set_nil, List.all_nil, List.all_cons, Bool.true_and, Option.map_some, Option.map_none, if_true, if_false, decide_eq_true_eq, Bool.false_eq_true, List.take_succ_cons, List.take_zero, List.take_nil, List.drop_succ_cons, List.drop_zero, List.drop_nil, reduceIte, reduceCtorEq]
  refine cl_mapE encB (fun x => encS (x.2, false)) r (by simp only [List.length_nil]; exact Nat.le_of_lt (bigl (by omega))) (fun x Kt hx hq => ?_) ?_
  · simp only [encB, flatD, List.any_cons, List.any_nil, eqv_str, eqv_int, eqv_ti, eqv_it, eqv_st, eqv_ts, cut1, Bool.or_false, Bool.or_true, Bool.and_self, Bool.and_true, Bool.and_false, Bool.false_or, Bool.true_or, and_self, ofs_inj, ofs_app, ofs_len, String.reduceEq, String.reduceNe, String.reduceAppend, decide_true, decide_false, Bool.not_true, Bool.not_false, sz0, sz1, sz2, sz3, sz4, sz5, sz6, sz7, sz8, sz9, sz10, sz11, sz12, sz13, sz14, sz15, sz16, sz17, sz18, sz19, sz20, sz21, sz22, sz23, sz24, sz25, cpow1018, true_and, and_true, Nat.reduceAdd, Nat.reduceLT, Nat.reduceSub, Int.reduceNe, Int.reduceEq, Int.reduceLT, Int.reduceLE, Int.reduceToNat, ne_eq, not_false_eq_true, List.length_map, Nat.lt_irrefl, dV_nx, dV_rt, at0, at1, at2, at3, ix20, ix21, vSeq, vIfS, vTest, vTruth, truth, v2, v1, vN, vCons, vNil, vStar, vVar, vC, xIx, Vl.opI0, Vl.opI, pk, vSet, vAug, vAsg, xgSub, vRet, vRetN, vNext_mk, vDrop, vBreak, vCont, asD, asDs, opMod, opDiv, opMul2, Vl.opAdd, Vl.opAddO, opSub, opPow, opLt, Vl.opLe, opGt, Vl.opGe, xEq, okEq_str, okEq_int, xIn, okIn, inD, xIsN, isNone_n, isNone_t, isNone_l, isNone_i, isNone_s, isMo, mob, pkm, gModI, gDivI, gSubI, gMulI, gPowI, gGt, gLt, gLe, gGe, vNotT, vAndT, vOrT, vAndV, vOrV, opNot, opNotG, vIfE, opTup, opLst, opLstO, Vl.opLen, Vl.opInt, opList, opListO, opTuple, opII, gMax, gMin, vM, vM0, isT, xPop, Vl.opAppend, opExtend, opJoin, vgName, vgTup, vgCons, vgNil, kOpt_some, kOpn_some, kOps_some, Vl.opSum, Vl.opInsert, Vl.opIndex, opDivmod, vSl, vPart, vNoPart, opSl, opSlO, opRev, opCallK, ownD, ownO, objs, renum, uniq, getS, putS, vCall0, vFor, vForW, En.wk, vSeqI, vTupI, vRng1, vRng2, vRngD, vFn, vCallL, vOdd, vWays, vEnum, vZip, chkOf, vLcK, vYes, finD, finO, En.wipe, wipeE, En.trim, trimS, dropNone, clr_n, clr_v, clr_k, clr_o, wth, Vl.ret, takeS, startV,  List.map_cons, List.map_nil, List.length_cons, List.length_nil, List.cons_append, List.nil_append, List.replicate, List.getElem?_cons_succ, List.getElem?_cons_zero, List.getElem?_nil, List.set_cons_succ, List.set_cons_zero, List.set_nil, List.all_nil, List.all_cons, Bool.true_and, Option.map_some, Option.map_none, if_true, if_false, decide_eq_true_eq, Bool.false_eq_true, List.take_succ_cons, List.take_zero, List.take_nil, List.drop_succ_cons, List.drop_zero, List.drop_nil, reduceIte, reduceCtorEq]
    exact hq _ rfl
  · have er : r.map (fun x => encS (x.2, false)) = (rowSd r).map encS := by unfold rowSd; rw [List.map_map]; rfl
    have e0 : PyData.tuple [k.enc, PyData.int 1] :: (rowSd r).map encS = (((k, true) :: rowSd r).reverse).reverse.map encS := by rw [List.reverse_reverse]; rfl
    have l0 : ((rowSd r).map encS).length = r.length := by rw [List.length_map]; exact rl
    simp only [er, l0, flatD, List.any_cons, List.any_nil, eqv_str, eqv_int, eqv_ti, eqv_it, eqv_st, eqv_ts, cut1, Bool.or_false, Bool.or_true, Bool.and_self, Bool.and_true, Bool.and_false, Bool.false_or, Bool.true_or, and_self, ofs_inj, ofs_app, ofs_len, String.reduceEq, String.reduceNe, String.reduceAppend, decide_true, decide_false, Bool.not_true, Bool.not_false, sz0, sz1, sz2, sz3, sz4, sz5, sz6, sz7, sz8, sz9, sz10, sz11, sz12, sz13, sz14, sz15, sz16, sz17, sz18, sz19, sz20, sz21, sz22, sz23, sz24, sz25, cpow1018, true_and, and_true, Nat.reduceAdd, Nat.reduceLT, Nat.reduceSub, Int.reduceNe, Int.reduceEq, Int.reduceLT, Int.reduceLE, Int.reduceToNat, ne_eq, not_false_eq_true, List.length_map, Nat.lt_irrefl, dV_nx, dV_rt, at0, at1, at2, at3, ix20, ix21, vSeq, vIfS, vTest, vTruth, truth, v2, v1, vN, vCons, vNil, vStar, vVar, vC, xIx, Vl.opI0, Vl.opI, pk, vSet, vAug, vAsg, xgSub, vRet, vRetN, vNext_mk, vDrop, vBreak, vCont, asD, asDs, opMod, opDiv, opMul2, Vl.opAdd, Vl.opAddO, opSub, opPow, opLt, Vl.opLe, opGt, Vl.opGe, xEq, okEq_str, okEq_int, xIn, okIn, inD, xIsN, isNone_n, isNone_t, isNone_l, isNone_i, isNone_s, isMo, mob, pkm, gModI, gDivI, gSubI, gMulI, gPowI, gGt, gLt, gLe, gGe, vNotT, vAndT, vOrT, vAndV, vOrV, opNot, opNotG, vIfE, opTup, opLst, opLstO, Vl.opLen, Vl.opInt, opList, opListO, opTuple, opII, gMax, gMin, vM, vM0, isT, xPop, Vl.opAppend, opExtend, opJoin, vgName, vgTup, vgCons, vgNil, kOpt_some, kOpn_some, kOps_some, Vl.opSum, Vl.opInsert, Vl.opIndex, opDivmod, vSl, vPart, vNoPart, opSl, opSlO, opRev, opCallK, ownD, ownO, objs, renum, uniq, getS, putS, vCall0, vFor, vForW, En.wk, vSeqI, vTupI, vRng1, vRng2, vRngD, vFn, vCallL, vOdd, vWays, vEnum, vZip, chkOf, vLcK, vYes, finD, finO, En.wipe, wipeE, En.trim, trimS, dropNone, clr_n, clr_v, clr_k, clr_o, wth, Vl.ret, takeS, startV,  List.map_cons, List.map_nil, List.length_cons, List.length_nil, List.cons_append, List.nil_append, List.replicate, List.getElem?_cons_succ, List.getElem?_cons_zero, List.getElem?_nil, List.set_cons_succ, List.set_cons_zero, List.set_nil, List.all_nil, List.all_cons, Bool.true_and, Option.map_some, Option.map_none, if_true, if_false, decide_eq_true_eq, Bool.false_eq_true, List.take_succ_cons, List.take_zero, List.take_nil, List.drop_succ_cons, List.drop_zero, List.drop_nil, reduceIte, reduceCtorEq]
    refine ⟨big (by omega), ?_⟩
    rw [e0]
    have h0 : SS (ctAll r k) (((k, true) :: rowSd r).reverse) [] (fun _ => (0, 0)) := ⟨MR.nil, fun y => by rw [tot_rev]; unfold ctAll; simp only [tot]; omega, by rw [mS_rev]; simp only [mS, List.length_nil]; omega⟩
    have one := fun (D0 : VEnds) (k' : Kd) (s : Bool) (todo : List Sd) (kvs : List (Ky × D)) (f : Ct) => @sd_one D0 (ctAll r k) (.list (r.map encB)) k.enc k' s todo kvs f
    generalize hG : ctAll r k = G at *
    generalize ((k, true) :: rowSd r).reverse = td at *
    generalize PyData.list (r.map encB) = d0 at *
    generalize k.enc = d1 at *
    simp only [t_sidesof_10]
    generalize e8 : t_sidesof_8 = T8 at one
    simp only [flatD, List.any_cons, List.any_nil, eqv_str, eqv_int, eqv_ti, eqv_it, eqv_st, eqv_ts, cut1, Bool.or_false, Bool.or_true, Bool.and_self, Bool.and_true, Bool.and_false, Bool.false_or, Bool.true_or, and_self, ofs_inj, ofs_app, ofs_len, String.reduceEq, String.reduceNe, String.reduceAppend, decide_true, decide_false, Bool.not_true, Bool.not_false, sz0, sz1, sz2, sz3, sz4, sz5, sz6, sz7, sz8, sz9, sz10, sz11, sz12, sz13, sz14, sz15, sz16, sz17, sz18, sz19, sz20, sz21, sz22, sz23, sz24, sz25, cpow1018, true_and, and_true, Nat.reduceAdd, Nat.reduceLT, Nat.reduceSub, Int.reduceNe, Int.reduceEq, Int.reduceLT, Int.reduceLE, Int.reduceToNat, ne_eq, not_false_eq_true, List.length_map, Nat.lt_irrefl, dV_nx, dV_rt, at0, at1, at2, at3, ix20, ix21, vSeq, vIfS, vTest, vTruth, truth, v2, v1, vN, vCons, vNil, vStar, vVar, vC, xIx, Vl.opI0, Vl.opI, pk, vSet, vAug, vAsg, xgSub, vRet, vRetN, vNext_mk, vDrop, vBreak, vCont, asD, asDs, opMod, opDiv, opMul2, Vl.opAdd, Vl.opAddO, opSub, opPow, opLt, Vl.opLe, opGt, Vl.opGe, xEq, okEq_str, okEq_int, xIn, okIn, inD, xIsN, isNone_n, isNone_t, isNone_l, isNone_i, isNone_s, isMo, mob, pkm, gModI, gDivI, gSubI, gMulI, gPowI, gGt, gLt, gLe, gGe, vNotT, vAndT, vOrT, vAndV, vOrV, opNot, opNotG, vIfE, opTup, opLst, opLstO, Vl.opLen, Vl.opInt, opList, opListO, opTuple, opII, gMax, gMin, vM, vM0, isT, xPop, Vl.opAppend, opExtend, opJoin, vgName, vgTup, vgCons, vgNil, kOpt_some, kOpn_some, kOps_some, Vl.opSum, Vl.opInsert, Vl.opIndex, opDivmod, vSl, vPart, vNoPart, opSl, opSlO, opRev, opCallK, ownD, ownO, objs, renum, uniq, getS, putS, vCall0, vFor, vForW, En.wk, vSeqI, vTupI, vRng1, vRng2, vRngD, vFn, vCallL, vOdd, vWays, vEnum, vZip, chkOf, vLcK, vYes, finD, finO, En.wipe, wipeE, En.trim, trimS, dropNone, clr_n, clr_v, clr_k, clr_o, wth, Vl.ret, takeS, startV,  List.map_cons, List.map_nil, List.length_cons, List.length_nil, List.cons_append, List.nil_append, List.replicate, List.getElem?_cons_succ, List.getElem?_cons_zero, List.getElem?_nil, List.set_cons_succ, List.set_cons_zero, List.set_nil, List.all_nil, List.all_cons, Bool.true_and, Option.map_some, Option.map_none, if_true, if_false, decide_eq_true_eq, Bool.false_eq_true, List.take_succ_cons, List.take_zero, List.take_nil, List.drop_succ_cons, List.drop_zero, List.drop_nil, reduceIte, reduceCtorEq]
    refine while_invW (fun m e => ∃ (todo : List Sd) (kvs : List (Ky × D)) (f : Ct), e = eS d0 d1 none none none none todo kvs ∧ SS G todo kvs f ∧ m = mS todo) ?_ (m := mS td) ⟨td, [], _, rfl, h0, rfl⟩
    rintro m e Nx ⟨todo, kvs, f, rfl, h, rfl⟩ hN
    cases todo with
    | nil =>
      have ef : f = G := funext fun y => by
        have := h.sum y
        simp only [tot, Nat.add_zero] at this
        exact Prod.ext this.1 this.2
      subst ef
      have e1 : (([] : List Sd).reverse.map encS).isEmpty = true := rfl
      simp only [e1, t_sidesof_9, flatD, List.any_cons, List.any_nil, eqv_str, eqv_int, eqv_ti, eqv_it, eqv_st, eqv_ts, cut1, Bool.or_false, Bool.or_true, Bool.and_self, Bool.and_true, Bool.and_false, Bool.false_or, Bool.true_or, and_self, ofs_inj, ofs_app, ofs_len, String.reduceEq, String.reduceNe, String.reduceAppend, decide_true, decide_false, Bool.not_true, Bool.not_false, sz0, sz1, sz2, sz3, sz4, sz5, sz6, sz7, sz8, sz9, sz10, sz11, sz12, sz13, sz14, sz15, sz16, sz17, sz18, sz19, sz20, sz21, sz22, sz23, sz24, sz25, cpow1018, true_and, and_true, Nat.reduceAdd, Nat.reduceLT, Nat.reduceSub, Int.reduceNe, Int.reduceEq, Int.reduceLT, Int.reduceLE, Int.reduceToNat, ne_eq, not_false_eq_true, List.length_map, Nat.lt_irrefl, dV_nx, dV_rt, at0, at1, at2, at3, ix20, ix21, vSeq, vIfS, vTest, vTruth, truth, v2, v1, vN, vCons, vNil, vStar, vVar, vC, xIx, Vl.opI0, Vl.opI, pk, vSet, vAug, vAsg, xgSub, vRet, vRetN, vNext_mk, vDrop, vBreak, vCont, asD, asDs, opMod, opDiv, opMul2, Vl.opAdd, Vl.opAddO, opSub, opPow, opLt, Vl.opLe, opGt, Vl.opGe, xEq, okEq_str, okEq_int, xIn, okIn, inD, xIsN, isNone_n, isNone_t, isNone_l, isNone_i, isNone_s, isMo, mob, pkm, gModI, gDivI, gSubI, gMulI, gPowI, gGt, gLt, gLe, gGe, vNotT, vAndT, vOrT, vAndV, vOrV, opNot, opNotG, vIfE, opTup, opLst, opLstO, Vl.opLen, Vl.opInt, opList, opListO, opTuple, opII, gMax, gMin, vM, vM0, isT, xPop, Vl.opAppend, opExtend, opJoin, vgName, vgTup, vgCons, vgNil, kOpt_some, kOpn_some, kOps_some, Vl.opSum, Vl.opInsert, Vl.opIndex, opDivmod, vSl, vPart, vNoPart, opSl, opSlO, opRev, opCallK, ownD, ownO, objs, renum, uniq, getS, putS, vCall0, vFor, vForW, En.wk, vSeqI, vTupI, vRng1, vRng2, vRngD, vFn, vCallL, vOdd, vWays, vEnum, vZip, chkOf, vLcK, vYes, finD, finO, En.wipe, wipeE, En.trim, trimS, dropNone, clr_n, clr_v, clr_k, clr_o, wth, Vl.ret, takeS, startV,  List.map_cons, List.map_nil, List.length_cons, List.length_nil, List.cons_append, List.nil_append, List.replicate, List.getElem?_cons_succ, List.getElem?_cons_zero, List.getElem?_nil, List.set_cons_succ, List.set_cons_zero, List.set_nil, List.all_nil, List.all_cons, Bool.true_and, Option.map_some, Option.map_none, if_true, if_false, decide_eq_true_eq, Bool.false_eq_true, List.take_succ_cons, List.take_zero, List.take_nil, List.drop_succ_cons, List.drop_zero, List.drop_nil, reduceIte, reduceCtorEq]
      exact q kvs h.mr
    | cons x todo =>
      obtain ⟨k', s⟩ := x
      have e1 : (((k', s) :: todo).reverse.map encS).isEmpty = false := by simp
      simp only [e1, flatD, List.any_cons, List.any_nil, eqv_str, eqv_int, eqv_ti, eqv_it, eqv_st, eqv_ts, cut1, Bool.or_false, Bool.or_true, Bool.and_self, Bool.and_true, Bool.and_false, Bool.false_or, Bool.true_or, and_self, ofs_inj, ofs_app, ofs_len, String.reduceEq, String.reduceNe, String.reduceAppend, decide_true, decide_false, Bool.not_true, Bool.not_false, sz0, sz1, sz2, sz3, sz4, sz5, sz6, sz7, sz8, sz9, sz10, sz11, sz12, sz13, sz14, sz15, sz16, sz17, sz18, sz19, sz20, sz21, sz22, sz23, sz24, sz25, cpow1018, true_and, and_true, Nat.reduceAdd, Nat.reduceLT, Nat.reduceSub, Int.reduceNe, Int.reduceEq, Int.reduceLT, Int.reduceLE, Int.reduceToNat, ne_eq, not_false_eq_true, List.length_map, Nat.lt_irrefl, dV_nx, dV_rt, at0, at1, at2, at3, ix20, ix21, vSeq, vIfS, vTest, vTruth, truth, v2, v1, vN, vCons, vNil, vStar, vVar, vC, xIx, Vl.opI0, Vl.opI, pk, vSet, vAug, vAsg, xgSub, vRet, vRetN, vNext_mk, vDrop, vBreak, vCont, asD, asDs, opMod, opDiv, opMul2, Vl.opAdd, Vl.opAddO, opSub, opPow, opLt, Vl.opLe, opGt, Vl.opGe, xEq, okEq_str, okEq_int, xIn, okIn, inD, xIsN, isNone_n, isNone_t, isNone_l, isNone_i, isNone_s, isMo, mob, pkm, gModI, gDivI, gSubI, gMulI, gPowI, gGt, gLt, gLe, gGe, vNotT, vAndT, vOrT, vAndV, vOrV, opNot, opNotG, vIfE, opTup, opLst, opLstO, Vl.opLen, Vl.opInt, opList, opListO, opTuple, opII, gMax, gMin, vM, vM0, isT, xPop, Vl.opAppend, opExtend, opJoin, vgName, vgTup, vgCons, vgNil, kOpt_some, kOpn_some, kOps_some, Vl.opSum, Vl.opInsert, Vl.opIndex, opDivmod, vSl, vPart, vNoPart, opSl, opSlO, opRev, opCallK, ownD, ownO, objs, renum, uniq, getS, putS, vCall0, vFor, vForW, En.wk, vSeqI, vTupI, vRng1, vRng2, vRngD, vFn, vCallL, vOdd, vWays, vEnum, vZip, chkOf, vLcK, vYes, finD, finO, En.wipe, wipeE, En.trim, trimS, dropNone, clr_n, clr_v, clr_k, clr_o, wth, Vl.ret, takeS, startV,  List.map_cons, List.map_nil, List.length_cons, List.length_nil, List.cons_append, List.nil_append, List.replicate, List.getElem?_cons_succ, List.getElem?_cons_zero, List.getElem?_nil, List.set_cons_succ, List.set_cons_zero, List.set_nil, List.all_nil, List.all_cons, Bool.true_and, Option.map_some, Option.map_none, if_true, if_false, decide_eq_true_eq, Bool.false_eq_true, List.take_succ_cons, List.take_zero, List.take_nil, List.drop_succ_cons, List.drop_zero, List.drop_nil, reduceIte, reduceCtorEq]
      exact one _ k' s todo kvs f h fun todo' kvs' f' s4 s5 s6 s7 hm h' => hN (mS todo') _ 2 [4, 5, 6, 7] hm (Nat.le_refl _) ⟨todo', kvs', f', rfl, h', rfl⟩
end Kf
namespace Kf
open PySem L2 Vl PySem.Spec PyProof.Rows
abbrev m67 : List Str := ["a", "to", "one"]
theorem m67_ok : ∀ m ∈ m67, PyData.strOk m = true := by decide +kernel
def okS (x : Sd) : Prop := x.1.over m67 ∧ x.1.deep ≤ 100
theorem shp_stack {l : List Sd} (h : ∀ x ∈ l, okS x) : Vl.shp (.list (l.map encS)) = true := by
  have a : PyData.canLayAll0 (l.map encS) = true ∧ PyData.depthAll (l.map encS) ≤ 110 := by
    induction l with
    | nil => rw [List.map_nil, canAll_nil, depthAll_nil]; exact ⟨rfl, Nat.zero_le _⟩
    | cons x l ih =>
      obtain ⟨i1, i2⟩ := ih fun y hy => h y (List.mem_cons_of_mem _ hy)
      obtain ⟨h1, h2⟩ := h x List.mem_cons_self
      rw [List.map_cons, canAll_cons, depthAll_cons, encS, can_tup, depth_tup, canAll_cons, canAll_cons, canAll_nil, depthAll_cons, depthAll_cons, depthAll_nil, can_int, depth_int, x.1.can_enc m67_ok h1, x.1.depth_enc, i1]
      exact ⟨rfl, by omega⟩
  unfold Vl.shp
  rw [can_lst, depth_lst, a.1, decide_eq_true (by omega)] <;> rfl
abbrev eL (d0 d1 : D) (s4 s5 s6 : Option Sl) (todo : List Sd) (kvs : List (Ky × D)) (more : List (Option Ob)) : En := ⟨[some (.val d0), some (.val d1), some (.obj 0), some (.obj 1), s4, s5, s6, none, none], some (.l (todo.reverse.map encS)) :: some (.m kvs) :: more⟩
theorem ls_one {D0 : VEnds} {G : Str → Nat × Nat} {d0 d1 : D} {k : Kd} {s : Bool} {todo : List Sd} {kvs : List (Ky × D)} {f : Ct} (h : SS G ((k, s) :: todo) kvs f) (ho : okS (k, s))
    (q : ∀ new kvs' f' s4 s5 s6 more, (more = [] ∨ ∃ l, more = [some (.l l)]) → mS (new ++ todo) < mS ((k, s) :: todo) → (∀ x ∈ new, okS x) → SS G (new ++ todo) kvs' f' → D0.nx (eL d0 d1 s4 s5 s6 (new ++ todo) kvs' more)) :
    t_Lsides_9 D0 (eL d0 d1 none none none ((k, s) :: todo) kvs []) := by
  obtain ⟨e1, e2⟩ := @encS_get (k, s) todo
  have lp := k.leaves_pos
  have lt := mS_len todo
  have hb := h.b
  simp only [mS] at hb
  simp only [t_Lsides_9, e1, e2, encS, flatD, List.any_cons, List.any_nil, eqv_str, eqv_int, eqv_ti, eqv_it, eqv_st, eqv_ts, cut1, Bool.or_false, Bool.or_true, Bool.and_self, Bool.and_true, Bool.and_false, Bool.false_or, Bool.true_or, and_self, ofs_inj, ofs_app, ofs_len, String.reduceEq, String.reduceNe, String.reduceAppend, decide_true, decide_false, Bool.not_true, Bool.not_false, sz0, sz1, sz2, sz3, sz4, sz5, sz6, sz7, sz8, sz9, sz10, sz11, sz12, sz13, sz14, sz15, sz16, sz17, sz18, sz19, sz20, sz21, sz22, sz23, sz24, sz25, cpow1018, true_and, and_true, Nat.reduceAdd, Nat.reduceLT, Nat.reduceSub, Int.reduceNe, Int.reduceEq, Int.reduceLT, Int.reduceLE, Int.reduceToNat, ne_eq, not_false_eq_true, List.length_map, Nat.lt_irrefl, dV_nx, dV_rt, at0, at1, at2, at3, ix20, ix21, vSeq, vIfS, vTest, vTruth, truth, v2, v1, vN, vCons, vNil, vStar, vVar, vC, xIx, Vl.opI0, Vl.opI, pk, vSet, vAug, vAsg, xgSub, vRet, vRetN, vNext_mk, vDrop, vBreak, vCont, asD, asDs, opMod, opDiv, opMul2, Vl.opAdd, Vl.opAddO, opSub, opPow, opLt, Vl.opLe, opGt, Vl.opGe, xEq, okEq_str, okEq_int, xIn, okIn, inD, xIsN, isNone_n, isNone_t, isNone_l, isNone_i, isNone_s, isMo, mob, pkm, gModI, gDivI, gSubI, gMulI, gPowI, gGt, gLt, gLe, gGe, vNotT, vAndT, vOrT, vAndV, vOrV, opNot, opNotG, vIfE, opTup, opLst, opLstO, Vl.opLen, Vl.opInt, opList, opListO, opTuple, opII, gMax, gMin, vM, vM0, isT, xPop, Vl.opAppend, opExtend, opJoin, vgName, vgTup, vgCons, vgNil, kOpt_some, kOpn_some, kOps_some, Vl.opSum, Vl.opInsert, Vl.opIndex, opDivmod, vSl, vPart, vNoPart, opSl, opSlO, opRev, opCallK, ownD, ownO, objs, renum, uniq, getS, putS, vCall0, vFor, vForW, En.wk, vSeqI, vTupI, vRng1, vRng2, vRngD, vFn, vCallL, vOdd, vWays, vEnum, vZip, chkOf, vLcK, vYes, finD, finO, En.wipe, wipeE, En.trim, trimS, dropNone, clr_n, clr_v, clr_k, clr_o, wth, Vl.ret, takeS, startV,  List.map_cons, List.map_nil, List.length_cons, List.length_nil, List.cons_append, List.nil_append, List.replicate, List.getElem?_cons_succ, List.getElem?_cons_zero, List.getElem?_nil, List.set_cons_succ, List.set_cons_zero, List.set_nil, List.all_nil, List.all_cons, Bool.true_and, Option.map_some, Option.map_none, if_true, if_false, decide_eq_true_eq, Bool.false_eq_true, List.take_succ_cons, List.take_zero, List.take_nil, List.drop_succ_cons, List.drop_zero, List.drop_nil, reduceIte, reduceCtorEq]
  cases k with
  | one =>
    simp only [t_Lsides_8, t_Lsides_7, t_Lsides_6, Kd.enc, flatD, List.any_cons, List.any_nil, eqv_str, eqv_int, eqv_ti, eqv_it, eqv_st, eqv_ts, cut1, Bool.or_false, Bool.or_true, Bool.and_self, Bool.and_true, Bool.and_false, Bool.false_or, Bool.true_or, and_self, ofs_inj, ofs_app, ofs_len, String.reduceEq, String.reduceNe, String.reduceAppend, decide_true, decide_false, Bool.not_true, Bool.not_false, sz0, sz1, sz2, sz3, sz4, sz5, sz6, sz7, sz8, sz9, sz10, sz11, sz12, sz13, sz14, sz15, sz16, sz17, sz18, sz19, sz20, sz21, sz22, sz23, sz24, sz25, cpow1018, true_and, and_true, Nat.reduceAdd, Nat.reduceLT, Nat.reduceSub, Int.reduceNe, Int.reduceEq, Int.reduceLT, Int.reduceLE, Int.reduceToNat, ne_eq, not_false_eq_true, List.length_map, Nat.lt_irrefl, dV_nx, dV_rt, at0, at1, at2, at3, ix20, ix21, vSeq, vIfS, vTest, vTruth, truth, v2, v1, vN, vCons, vNil, vStar, vVar, vC, xIx, Vl.opI0, Vl.opI, pk, vSet, vAug, vAsg, xgSub, vRet, vRetN, vNext_mk, vDrop, vBreak, vCont, asD, asDs, opMod, opDiv, opMul2, Vl.opAdd, Vl.opAddO, opSub, opPow, opLt, Vl.opLe, opGt, Vl.opGe, xEq, okEq_str, okEq_int, xIn, okIn, inD, xIsN, isNone_n, isNone_t, isNone_l, isNone_i, isNone_s, isMo, mob, pkm, gModI, gDivI, gSubI, gMulI, gPowI, gGt, gLt, gLe, gGe, vNotT, vAndT, vOrT, vAndV, vOrV, opNot, opNotG, vIfE, opTup, opLst, opLstO, Vl.opLen, Vl.opInt, opList, opListO, opTuple, opII, gMax, gMin, vM, vM0, isT, xPop, Vl.opAppend, opExtend, opJoin, vgName, vgTup, vgCons, vgNil, kOpt_some, kOpn_some, kOps_some, Vl.opSum, Vl.opInsert, Vl.opIndex, opDivmod, vSl, vPart, vNoPart, opSl, opSlO, opRev, opCallK, ownD, ownO, objs, renum, uniq, getS, putS, vCall0, vFor, vForW, En.wk, vSeqI, vTupI, vRng1, vRng2, vRngD, vFn, vCallL, vOdd, vWays, vEnum, vZip, chkOf, vLcK, vYes, finD, finO, En.wipe, wipeE, En.trim, trimS, dropNone, clr_n, clr_v, clr_k, clr_o, wth, Vl.ret, takeS, startV,  List.map_cons, List.map_nil, List.length_cons, List.length_nil, List.cons_append, List.nil_append, List.replicate, List.getElem?_cons_succ, List.getElem?_cons_zero, List.getElem?_nil, List.set_cons_succ, List.set_cons_zero, List.set_nil, List.all_nil, List.all_cons, Bool.true_and, Option.map_some, Option.map_none, if_true, if_false, decide_eq_true_eq, Bool.false_eq_true, List.take_succ_cons, List.take_zero, List.take_nil, List.drop_succ_cons, List.drop_zero, List.drop_nil, reduceIte, reduceCtorEq]
    refine q [] kvs f _ _ _ [] (.inl rfl) (by simp only [mS, List.nil_append]; omega) (fun x h => by cases h) ⟨h.mr, fun y => ?_, by simp only [List.nil_append]; omega⟩
    have := h.sum y
    simp only [tot, Kd.add] at this
    simp only [List.nil_append]
    omega
  | to a b =>
    have la := a.leaves_pos
    have lb := b.leaves_pos
    have hd := ho.2
    simp only [Kd.leaves] at hb
    simp only [Kd.deep] at hd
    have fin : D0.nx (eL d0 d1 (some (.val (Kd.to a b).enc)) (some (.val (.int (if s then 1 else 0)))) none ((b, s) :: (a, !s) :: todo) kvs []) := q [(b, s), (a, !s)] kvs f _ _ _ [] (.inl rfl) (by simp only [mS, Kd.leaves, List.cons_append, List.nil_append]; omega) (fun x hx => by
      rcases List.mem_cons.mp hx with rfl | hx
      · exact ⟨ho.1.2, by show b.deep ≤ 100; omega⟩
      · rw [List.mem_singleton.mp hx]
        exact ⟨ho.1.1, by show a.deep ≤ 100; omega⟩) ⟨h.mr, fun y => by
      have := h.sum y
      simp only [tot, Kd.add, List.cons_append, List.nil_append] at this ⊢
      omega, by simp only [mS, List.cons_append, List.nil_append]; omega⟩
    have em : ((b, s) :: (a, !s) :: todo).reverse.map encS = todo.reverse.map encS ++ [encS (a, !s), encS (b, s)] := by simp
    have lm : (todo.reverse.map encS).length = todo.length := by simp
    simp only [eL, em] at fin
    cases s with
    | true =>
      simp only [t_Lsides_8, t_Lsides_7, t_Lsides_4, Kd.enc, lm, flatD, List.any_cons, List.any_nil, eqv_str, eqv_int, eqv_ti, eqv_it, eqv_st, eqv_ts, cut1, Bool.or_false, Bool.or_true, Bool.and_self, Bool.and_true, Bool.and_false, Bool.false_or, Bool.true_or, and_self, ofs_inj, ofs_app, ofs_len, String.reduceEq, String.reduceNe, String.reduceAppend, decide_true, decide_false, Bool.not_true, Bool.not_false, sz0, sz1, sz2, sz3, sz4, sz5, sz6, sz7, sz8, sz9, sz10, sz11, sz12, sz13, sz14, sz15, sz16, sz17, sz18, sz19, sz20, sz21, sz22, sz23, sz24, sz25, cpow1018, true_and, and_true, Nat.reduceAdd, Nat.reduceLT, Nat.reduceSub, Int.reduceNe, Int.reduceEq, Int.reduceLT, Int.reduceLE, Int.reduceToNat, ne_eq, not_false_eq_true, List.length_map, Nat.lt_irrefl, dV_nx, dV_rt, at0, at1, at2, at3, ix20, ix21, vSeq, vIfS, vTest, vTruth, truth, v2, v1, vN, vCons, vNil, vStar, vVar, vC, xIx, Vl.opI0, Vl.opI, pk, vSet, vAug, vAsg, xgSub, vRet, vRetN, vNext_mk, vDrop, vBreak, vCont, asD, asDs, opMod, opDiv, opMul2, Vl.opAdd, Vl.opAddO, opSub, opPow, opLt, Vl.opLe, opGt, Vl.opGe, xEq, okEq_str, okEq_int, xIn, okIn, inD, xIsN, isNone_n, isNone_t, isNone_l, isNone_i, isNone_s, isMo, mob, pkm, gModI, gDivI, gSubI, gMulI, gPowI, gGt, gLt, gLe, gGe, vNotT, vAndT, vOrT, vAndV, vOrV, opNot, opNotG, vIfE, opTup, opLst, opLstO, Vl.opLen, Vl.opInt, opList, opListO, opTuple, opII, gMax, gMin, vM, vM0, isT, xPop, Vl.opAppend, opExtend, opJoin, vgName, vgTup, vgCons, vgNil, kOpt_some, kOpn_some, kOps_some, Vl.opSum, Vl.opInsert, Vl.opIndex, opDivmod, vSl, vPart, vNoPart, opSl, opSlO, opRev, opCallK, ownD, ownO, objs, renum, uniq, getS, putS, vCall0, vFor, vForW, En.wk, vSeqI, vTupI, vRng1, vRng2, vRngD, vFn, vCallL, vOdd, vWays, vEnum, vZip, chkOf, vLcK, vYes, finD, finO, En.wipe, wipeE, En.trim, trimS, dropNone, clr_n, clr_v, clr_k, clr_o, wth, Vl.ret, takeS, startV,  List.map_cons, List.map_nil, List.length_cons, List.length_nil, List.cons_append, List.nil_append, List.replicate, List.getElem?_cons_succ, List.getElem?_cons_zero, List.getElem?_nil, List.set_cons_succ, List.set_cons_zero, List.set_nil, List.all_nil, List.all_cons, Bool.true_and, Option.map_some, Option.map_none, if_true, if_false, decide_eq_true_eq, Bool.false_eq_true, List.take_succ_cons, List.take_zero, List.take_nil, List.drop_succ_cons, List.drop_zero, List.drop_nil, reduceIte, reduceCtorEq]
      exact ⟨bigl (by omega), fin⟩
    | false =>
      simp only [t_Lsides_8, t_Lsides_7, t_Lsides_4, Kd.enc, lm, flatD, List.any_cons, List.any_nil, eqv_str, eqv_int, eqv_ti, eqv_it, eqv_st, eqv_ts, cut1, Bool.or_false, Bool.or_true, Bool.and_self, Bool.and_true, Bool.and_false, Bool.false_or, Bool.true_or, and_self, ofs_inj, ofs_app, ofs_len, String.reduceEq, String.reduceNe, String.reduceAppend, decide_true, decide_false, Bool.not_true, Bool.not_false, sz0, sz1, sz2, sz3, sz4, sz5, sz6, sz7, sz8, sz9, sz10, sz11, sz12, sz13, sz14, sz15, sz16, sz17, sz18, sz19, sz20, sz21, sz22, sz23, sz24, sz25, cpow1018, true_and, and_true, Nat.reduceAdd, Nat.reduceLT, Nat.reduceSub, Int.reduceNe, Int.reduceEq, Int.reduceLT, Int.reduceLE, Int.reduceToNat, ne_eq, not_false_eq_true, List.length_map, Nat.lt_irrefl, dV_nx, dV_rt, at0, at1, at2, at3, ix20, ix21, vSeq, vIfS, vTest, vTruth, truth, v2, v1, vN, vCons, vNil, vStar, vVar, vC, xIx, Vl.opI0, Vl.opI, pk, vSet, vAug, vAsg, xgSub, vRet, vRetN, vNext_mk, vDrop, vBreak, vCont, asD, asDs, opMod, opDiv, opMul2, Vl.opAdd, Vl.opAddO, opSub, opPow, opLt, Vl.opLe, opGt, Vl.opGe, xEq, okEq_str, okEq_int, xIn, okIn, inD, xIsN, isNone_n, isNone_t, isNone_l, isNone_i, isNone_s, isMo, mob, pkm, gModI, gDivI, gSubI, gMulI, gPowI, gGt, gLt, gLe, gGe, vNotT, vAndT, vOrT, vAndV, vOrV, opNot, opNotG, vIfE, opTup, opLst, opLstO, Vl.opLen, Vl.opInt, opList, opListO, opTuple, opII, gMax, gMin, vM, vM0, isT, xPop, Vl.opAppend, opExtend, opJoin, vgName, vgTup, vgCons, vgNil, kOpt_some, kOpn_some, kOps_some, Vl.opSum, Vl.opInsert, Vl.opIndex, opDivmod, vSl, vPart, vNoPart, opSl, opSlO, opRev, opCallK, ownD, ownO, objs, renum, uniq, getS, putS, vCall0, vFor, vForW, En.wk, vSeqI, vTupI, vRng1, vRng2, vRngD, vFn, vCallL, vOdd, vWays, vEnum, vZip, chkOf, vLcK, vYes, finD, finO, En.wipe, wipeE, En.trim, trimS, dropNone, clr_n, clr_v, clr_k, clr_o, wth, Vl.ret, takeS, startV,  List.map_cons, List.map_nil, List.length_cons, List.length_nil, List.cons_append, List.nil_append, List.replicate, List.getElem?_cons_succ, List.getElem?_cons_zero, List.getElem?_nil, List.set_cons_succ, List.set_cons_zero, List.set_nil, List.all_nil, List.all_cons, Bool.true_and, Option.map_some, Option.map_none, if_true, if_false, decide_eq_true_eq, Bool.false_eq_true, List.take_succ_cons, List.take_zero, List.take_nil, List.drop_succ_cons, List.drop_zero, List.drop_nil, reduceIte, reduceCtorEq]
      exact ⟨bigl (by omega), fin⟩
  | both a b =>
    have la := a.leaves_pos
    have lb := b.leaves_pos
    have hd := ho.2
    simp only [Kd.leaves] at hb
    simp only [Kd.deep] at hd
    have fin : D0.nx (eL d0 d1 (some (.val (Kd.both a b).enc)) (some (.val (.int (if s then 1 else 0)))) none ((b, s) :: (a, s) :: todo) kvs []) := q [(b, s), (a, s)] kvs f _ _ _ [] (.inl rfl) (by simp only [mS, Kd.leaves, List.cons_append, List.nil_append]; omega) (fun x hx => by
      rcases List.mem_cons.mp hx with rfl | hx
      · exact ⟨ho.1.2, by show b.deep ≤ 100; omega⟩
      · rw [List.mem_singleton.mp hx]
        exact ⟨ho.1.1, by show a.deep ≤ 100; omega⟩) ⟨h.mr, fun y => by
      have := h.sum y
      simp only [tot, Kd.add, List.cons_append, List.nil_append] at this ⊢
      omega, by simp only [mS, List.cons_append, List.nil_append]; omega⟩
    have em : ((b, s) :: (a, s) :: todo).reverse.map encS = todo.reverse.map encS ++ [encS (a, s), encS (b, s)] := by simp
    have lm : (todo.reverse.map encS).length = todo.length := by simp
    simp only [eL, em] at fin
    simp only [t_Lsides_8, t_Lsides_7, t_Lsides_6, t_Lsides_5, Kd.enc, lm, flatD, List.any_cons, List.any_nil, eqv_str, eqv_int, eqv_ti, eqv_it, eqv_st, eqv_ts, cut1, Bool.or_false, Bool.or_true, Bool.and_self, Bool.and_true, Bool.and_false, Bool.false_or, Bool.true_or, and_self, ofs_inj, ofs_app, ofs_len, String.reduceEq, String.reduceNe, String.reduceAppend, decide_true, decide_false, Bool.not_true, Bool.not_false, sz0, sz1, sz2, sz3, sz4, sz5, sz6, sz7, sz8, sz9, sz10, sz11, sz12, sz13, sz14, sz15, sz16, sz17, sz18, sz19, sz20, sz21, sz22, sz23, sz24, sz25, cpow1018, true_and, and_true, Nat.reduceAdd, Nat.reduceLT, Nat.reduceSub, Int.reduceNe, Int.reduceEq, Int.reduceLT, Int.reduceLE, Int.reduceToNat, ne_eq, not_false_eq_true, List.length_map, Nat.lt_irrefl, dV_nx, dV_rt, at0, at1, at2, at3, ix20, ix21, vSeq, vIfS, vTest, vTruth, truth, v2, v1, vN, vCons, vNil, vStar, vVar, vC, xIx, Vl.opI0, Vl.opI, pk, vSet, vAug, vAsg, xgSub, vRet, vRetN, vNext_mk, vDrop, vBreak, vCont, asD, asDs, opMod, opDiv, opMul2, Vl.opAdd, Vl.opAddO, opSub, opPow, opLt, Vl.opLe, opGt, Vl.opGe, xEq, okEq_str, okEq_int, xIn, okIn, inD, xIsN, isNone_n, isNone_t, isNone_l, isNone_i, isNone_s, isMo, mob, pkm, gModI, gDivI, gSubI, gMulI, gPowI, gGt, gLt, gLe, gGe, vNotT, vAndT, vOrT, vAndV, vOrV, opNot, opNotG, vIfE, opTup, opLst, opLstO, Vl.opLen, Vl.opInt, opList, opListO, opTuple, opII, gMax, gMin, vM, vM0, isT, xPop, Vl.opAppend, opExtend, opJoin, vgName, vgTup, vgCons, vgNil, kOpt_some, kOpn_some, kOps_some, Vl.opSum, Vl.opInsert, Vl.opIndex, opDivmod, vSl, vPart, vNoPart, opSl, opSlO, opRev, opCallK, ownD, ownO, objs, renum, uniq, getS, putS, vCall0, vFor, vForW, En.wk, vSeqI, vTupI, vRng1, vRng2, vRngD, vFn, vCallL, vOdd, vWays, vEnum, vZip, chkOf, vLcK, vYes, finD, finO, En.wipe, wipeE, En.trim, trimS, dropNone, clr_n, clr_v, clr_k, clr_o, wth, Vl.ret, takeS, startV,  List.map_cons, List.map_nil, List.length_cons, List.length_nil, List.cons_append, List.nil_append, List.replicate, List.getElem?_cons_succ, List.getElem?_cons_zero, List.getElem?_nil, List.set_cons_succ, List.set_cons_zero, List.set_nil, List.all_nil, List.all_cons, Bool.true_and, Option.map_some, Option.map_none, if_true, if_false, decide_eq_true_eq, Bool.false_eq_true, List.take_succ_cons, List.take_zero, List.take_nil, List.drop_succ_cons, List.drop_zero, List.drop_nil, reduceIte, reduceCtorEq]
    exact ⟨bigl (by omega), fin⟩
  | mark m =>
    have g : (Option.map Sl.val (findK kvs (Sum.inr m))).getD (Sl.val (PyData.tuple [PyData.int 0, PyData.int 0])) = .val (prD (f m)) := by
      rw [h.mr.get m]
      by_cases c : f m = (0, 0)
      · rw [if_pos c, c]; rfl
      · rw [if_neg c]; rfl
    have fin : ∀ n : Nat × Nat, n = (if s then ((f m).1, (f m).2 + 1) else ((f m).1 + 1, (f m).2)) → ∀ s4 s5 s6 more, (more = [] ∨ ∃ l, more = [some (.l l)]) → kvs.length < sizeLine ∧ D0.nx (eL d0 d1 s4 s5 s6 todo (putM kvs (.inr m) (prD n)) more) := by
      intro n hn s4 s5 s6 more hmore
      have n0 : n ≠ (0, 0) := by
        rw [hn]
        cases s <;> simp
      refine ⟨bigl (by simp only [Kd.leaves] at hb; omega), q [] _ (ctPut f m n) _ _ _ more hmore (by simp only [mS, List.nil_append]; omega) (fun x h => by cases h) ⟨h.mr.put m n0, fun y => ?_, ?_⟩⟩
      · have := h.sum y
        simp only [tot, Kd.add] at this
        simp only [List.nil_append]
        unfold ctPut
        by_cases e : y = m
        · subst e
          rw [if_pos rfl, hn]
          cases s
          · simp only [if_true, Bool.false_eq_true, if_false] at this ⊢
            omega
          · simp only [if_true] at this ⊢
            omega
        · rw [if_neg e]
          simp only [if_neg e] at this
          omega
      · have := congrArg List.length (putM_keys (kvs := kvs) (k := .inr m) (d := prD n))
        simp only [List.length_map] at this
        simp only [Kd.leaves] at hb
        simp only [List.nil_append]
        split at this
        · simp only [List.length_map] at this; omega
        · simp only [List.length_append, List.length_map, List.length_singleton] at this; omega
    simp only [t_Lsides_8, t_Lsides_3, Kd.enc, vDGet2, dGetO, isDO, dKey, flatD, List.any_cons, List.any_nil, eqv_str, eqv_int, eqv_ti, eqv_it, eqv_st, eqv_ts, cut1, Bool.or_false, Bool.or_true, Bool.and_self, Bool.and_true, Bool.and_false, Bool.false_or, Bool.true_or, and_self, ofs_inj, ofs_app, ofs_len, String.reduceEq, String.reduceNe, String.reduceAppend, decide_true, decide_false, Bool.not_true, Bool.not_false, sz0, sz1, sz2, sz3, sz4, sz5, sz6, sz7, sz8, sz9, sz10, sz11, sz12, sz13, sz14, sz15, sz16, sz17, sz18, sz19, sz20, sz21, sz22, sz23, sz24, sz25, cpow1018, true_and, and_true, Nat.reduceAdd, Nat.reduceLT, Nat.reduceSub, Int.reduceNe, Int.reduceEq, Int.reduceLT, Int.reduceLE, Int.reduceToNat, ne_eq, not_false_eq_true, List.length_map, Nat.lt_irrefl, dV_nx, dV_rt, at0, at1, at2, at3, ix20, ix21, vSeq, vIfS, vTest, vTruth, truth, v2, v1, vN, vCons, vNil, vStar, vVar, vC, xIx, Vl.opI0, Vl.opI, pk, vSet, vAug, vAsg, xgSub, vRet, vRetN, vNext_mk, vDrop, vBreak, vCont, asD, asDs, opMod, opDiv, opMul2, Vl.opAdd, Vl.opAddO, opSub, opPow, opLt, Vl.opLe, opGt, Vl.opGe, xEq, okEq_str, okEq_int, xIn, okIn, inD, xIsN, isNone_n, isNone_t, isNone_l, isNone_i, isNone_s, isMo, mob, pkm, gModI, gDivI, gSubI, gMulI, gPowI, gGt, gLt, gLe, gGe, vNotT, vAndT, vOrT, vAndV, vOrV, opNot, opNotG, vIfE, opTup, opLst, opLstO, Vl.opLen, Vl.opInt, opList, opListO, opTuple, opII, gMax, gMin, vM, vM0, isT, xPop, Vl.opAppend, opExtend, opJoin, vgName, vgTup, vgCons, vgNil, kOpt_some, kOpn_some, kOps_some, Vl.opSum, Vl.opInsert, Vl.opIndex, opDivmod, vSl, vPart, vNoPart, opSl, opSlO, opRev, opCallK, ownD, ownO, objs, renum, uniq, getS, putS, vCall0, vFor, vForW, En.wk, vSeqI, vTupI, vRng1, vRng2, vRngD, vFn, vCallL, vOdd, vWays, vEnum, vZip, chkOf, vLcK, vYes, finD, finO, En.wipe, wipeE, En.trim, trimS, dropNone, clr_n, clr_v, clr_k, clr_o, wth, Vl.ret, takeS, startV,  List.map_cons, List.map_nil, List.length_cons, List.length_nil, List.cons_append, List.nil_append, List.replicate, List.getElem?_cons_succ, List.getElem?_cons_zero, List.getElem?_nil, List.set_cons_succ, List.set_cons_zero, List.set_nil, List.all_nil, List.all_cons, Bool.true_and, Option.map_some, Option.map_none, if_true, if_false, decide_eq_true_eq, Bool.false_eq_true, List.take_succ_cons, List.take_zero, List.take_nil, List.drop_succ_cons, List.drop_zero, List.drop_nil, reduceIte, reduceCtorEq]
    rw [g]
    cases s with
    | true =>
      have k := fin _ rfl
      simp only [if_true, prD, eL] at k
      simp only [prD, t_Lsides_2, t_Lsides_1, xgDSub, dKey, flatD, List.any_cons, List.any_nil, eqv_str, eqv_int, eqv_ti, eqv_it, eqv_st, eqv_ts, cut1, Bool.or_false, Bool.or_true, Bool.and_self, Bool.and_true, Bool.and_false, Bool.false_or, Bool.true_or, and_self, ofs_inj, ofs_app, ofs_len, String.reduceEq, String.reduceNe, String.reduceAppend, decide_true, decide_false, Bool.not_true, Bool.not_false, sz0, sz1, sz2, sz3, sz4, sz5, sz6, sz7, sz8, sz9, sz10, sz11, sz12, sz13, sz14, sz15, sz16, sz17, sz18, sz19, sz20, sz21, sz22, sz23, sz24, sz25, cpow1018, true_and, and_true, Nat.reduceAdd, Nat.reduceLT, Nat.reduceSub, Int.reduceNe, Int.reduceEq, Int.reduceLT, Int.reduceLE, Int.reduceToNat, ne_eq, not_false_eq_true, List.length_map, Nat.lt_irrefl, dV_nx, dV_rt, at0, at1, at2, at3, ix20, ix21, vSeq, vIfS, vTest, vTruth, truth, v2, v1, vN, vCons, vNil, vStar, vVar, vC, xIx, Vl.opI0, Vl.opI, pk, vSet, vAug, vAsg, xgSub, vRet, vRetN, vNext_mk, vDrop, vBreak, vCont, asD, asDs, opMod, opDiv, opMul2, Vl.opAdd, Vl.opAddO, opSub, opPow, opLt, Vl.opLe, opGt, Vl.opGe, xEq, okEq_str, okEq_int, xIn, okIn, inD, xIsN, isNone_n, isNone_t, isNone_l, isNone_i, isNone_s, isMo, mob, pkm, gModI, gDivI, gSubI, gMulI, gPowI, gGt, gLt, gLe, gGe, vNotT, vAndT, vOrT, vAndV, vOrV, opNot, opNotG, vIfE, opTup, opLst, opLstO, Vl.opLen, Vl.opInt, opList, opListO, opTuple, opII, gMax, gMin, vM, vM0, isT, xPop, Vl.opAppend, opExtend, opJoin, vgName, vgTup, vgCons, vgNil, kOpt_some, kOpn_some, kOps_some, Vl.opSum, Vl.opInsert, Vl.opIndex, opDivmod, vSl, vPart, vNoPart, opSl, opSlO, opRev, opCallK, ownD, ownO, objs, renum, uniq, getS, putS, vCall0, vFor, vForW, En.wk, vSeqI, vTupI, vRng1, vRng2, vRngD, vFn, vCallL, vOdd, vWays, vEnum, vZip, chkOf, vLcK, vYes, finD, finO, En.wipe, wipeE, En.trim, trimS, dropNone, clr_n, clr_v, clr_k, clr_o, wth, Vl.ret, takeS, startV,  List.map_cons, List.map_nil, List.length_cons, List.length_nil, List.cons_append, List.nil_append, List.replicate, List.getElem?_cons_succ, List.getElem?_cons_zero, List.getElem?_nil, List.set_cons_succ, List.set_cons_zero, List.set_nil, List.all_nil, List.all_cons, Bool.true_and, Option.map_some, Option.map_none, if_true, if_false, decide_eq_true_eq, Bool.false_eq_true, List.take_succ_cons, List.take_zero, List.take_nil, List.drop_succ_cons, List.drop_zero, List.drop_nil, reduceIte, reduceCtorEq]
      exact k _ _ _ _ (.inr ⟨_, rfl⟩)
    | false =>
      have k := fin _ rfl
      simp only [Bool.false_eq_true, if_false, prD, eL] at k
      simp only [prD, t_Lsides_2, t_Lsides_1, xgDSub, dKey, flatD, List.any_cons, List.any_nil, eqv_str, eqv_int, eqv_ti, eqv_it, eqv_st, eqv_ts, cut1, Bool.or_false, Bool.or_true, Bool.and_self, Bool.and_true, Bool.and_false, Bool.false_or, Bool.true_or, and_self, ofs_inj, ofs_app, ofs_len, String.reduceEq, String.reduceNe, String.reduceAppend, decide_true, decide_false, Bool.not_true, Bool.not_false, sz0, sz1, sz2, sz3, sz4, sz5, sz6, sz7, sz8, sz9, sz10, sz11, sz12, sz13, sz14, sz15, sz16, sz17, sz18, sz19, sz20, sz21, sz22, sz23, sz24, sz25, cpow1018, true_and, and_true, Nat.reduceAdd, Nat.reduceLT, Nat.reduceSub, Int.reduceNe, Int.reduceEq, Int.reduceLT, Int.reduceLE, Int.reduceToNat, ne_eq, not_false_eq_true, List.length_map, Nat.lt_irrefl, dV_nx, dV_rt, at0, at1, at2, at3, ix20, ix21, vSeq, vIfS, vTest, vTruth, truth, v2, v1, vN, vCons, vNil, vStar, vVar, vC, xIx, Vl.opI0, Vl.opI, pk, vSet, vAug, vAsg, xgSub, vRet, vRetN, vNext_mk, vDrop, vBreak, vCont, asD, asDs, opMod, opDiv, opMul2, Vl.opAdd, Vl.opAddO, opSub, opPow, opLt, Vl.opLe, opGt, Vl.opGe, xEq, okEq_str, okEq_int, xIn, okIn, inD, xIsN, isNone_n, isNone_t, isNone_l, isNone_i, isNone_s, isMo, mob, pkm, gModI, gDivI, gSubI, gMulI, gPowI, gGt, gLt, gLe, gGe, vNotT, vAndT, vOrT, vAndV, vOrV, opNot, opNotG, vIfE, opTup, opLst, opLstO, Vl.opLen, Vl.opInt, opList, opListO, opTuple, opII, gMax, gMin, vM, vM0, isT, xPop, Vl.opAppend, opExtend, opJoin, vgName, vgTup, vgCons, vgNil, kOpt_some, kOpn_some, kOps_some, Vl.opSum, Vl.opInsert, Vl.opIndex, opDivmod, vSl, vPart, vNoPart, opSl, opSlO, opRev, opCallK, ownD, ownO, objs, renum, uniq, getS, putS, vCall0, vFor, vForW, En.wk, vSeqI, vTupI, vRng1, vRng2, vRngD, vFn, vCallL, vOdd, vWays, vEnum, vZip, chkOf, vLcK, vYes, finD, finO, En.wipe, wipeE, En.trim, trimS, dropNone, clr_n, clr_v, clr_k, clr_o, wth, Vl.ret, takeS, startV,  List.map_cons, List.map_nil, List.length_cons, List.length_nil, List.cons_append, List.nil_append, List.replicate, List.getElem?_cons_succ, List.getElem?_cons_zero, List.getElem?_nil, List.set_cons_succ, List.set_cons_zero, List.set_nil, List.all_nil, List.all_cons, Bool.true_and, Option.map_some, Option.map_none, if_true, if_false, decide_eq_true_eq, Bool.false_eq_true, List.take_succ_cons, List.take_zero, List.take_nil, List.drop_succ_cons, List.drop_zero, List.drop_nil, reduceIte, reduceCtorEq]
      exact k _ _ _ _ (.inr ⟨_, rfl⟩)
def pLSides : VSp := fun ss st Kp => ∃ (r : List (Str × Kd)) (k : Kd), ss = [.val (.list (r.map encB)), .val k.enc] ∧ st = [] ∧ mS ((k, true) :: rowSd r) ≤ 1000000 ∧ (∀ x ∈ (k, true) :: rowSd r, okS x) ∧ ∀ kvs, MR kvs (ctAll r k) → Kp (.obj 0) [.m kvs]
theorem r_Lsides {ss cs Kp} (h : pLSides ss cs Kp) : t_Lsides (dV cs.length Kp) ⟨startV 9 ss, cs.map some⟩ := by
  obtain ⟨r, k, rfl, rfl, hb, hok, q⟩ := h
  have ml := mS_len (rowSd r)
  have rl : (rowSd r).length = r.length := List.length_map _
  simp only [mS] at hb
  simp only [t_Lsides, t_Lsides_13, flatD, List.any_cons, List.any_nil, eqv_str, eqv_int, eqv_ti, eqv_it, eqv_st, eqv_ts, cut1, Bool.or_false, Bool.or_true, Bool.and_self, Bool.and_true, Bool.and_false, Bool.false_or, Bool.true_or, and_self, ofs_inj, ofs_app, ofs_len, String.reduceEq, String.reduceNe, String.reduceAppend, decide_true, decide_false, Bool.not_true, Bool.not_false, sz0, sz1, sz2, sz3, sz4, sz5, sz6, sz7, sz8, sz9, sz10, sz11, sz12, sz13, sz14, sz15, sz16, sz17, sz18, sz19, sz20, sz21, sz22, sz23, sz24, sz25, cpow1018, true_and, and_true, Nat.reduceAdd, Nat.reduceLT, Nat.reduceSub, Int.reduceNe, Int.reduceEq, Int.reduceLT, Int.reduceLE, Int.reduceToNat, ne_eq, not_false_eq_true, List.length_map, Nat.lt_irrefl, dV_nx, dV_rt, at0, at1, at2, at3, ix20, ix21, vSeq, vIfS, vTest, vTruth, truth, v2, v1, vN, vCons, vNil, vStar, vVar, vC, xIx, Vl.opI0, Vl.opI, pk, vSet, vAug, vAsg, xgSub, vRet, vRetN, vNext_mk, vDrop, vBreak, vCont, asD, asDs, opMod, opDiv, opMul2, Vl.opAdd, Vl.opAddO, opSub, opPow, opLt, Vl.opLe, opGt, Vl.opGe, xEq, okEq_str, okEq_int, xIn, okIn, inD, xIsN, isNone_n, isNone_t, isNone_l, isNone_i, isNone_s, isMo, mob, pkm, gModI, gDivI, gSubI, gMulI, gPowI, gGt, gLt, gLe, gGe, vNotT, vAndT, vOrT, vAndV, vOrV, opNot, opNotG, vIfE, opTup, opLst, opLstO, Vl.opLen, Vl.opInt, opList, opListO, opTuple, opII, gMax, gMin, vM, vM0, isT, xPop, Vl.opAppend, opExtend, opJoin, vgName, vgTup, vgCons, vgNil, kOpt_some, kOpn_some, kOps_some, Vl.opSum, Vl.opInsert, Vl.opIndex, opDivmod, vSl, vPart, vNoPart, opSl, opSlO, opRev, opCallK, ownD, ownO, objs, renum, uniq, getS, putS, vCall0, vFor, vForW, En.wk, vSeqI, vTupI, vRng1, vRng2, vRngD, vFn, vCallL, vOdd, vWays, vEnum, vZip, chkOf, vLcK, vYes, finD, finO, En.wipe, wipeE, En.trim, trimS, dropNone, clr_n, clr_v, clr_k, clr_o, wth, Vl.ret, takeS, startV,  List.map_cons, List.map_nil, List.length_cons, List.length_nil, List.cons_append, List.nil_append, List.replicate, List.getElem?_cons_succ, List.getElem?_cons_zero, List.getElem?_nil, List.set_cons_succ, List.set_cons_zero, List.set_nil, List.all_nil, List.all_cons, Bool.true_and, Option.map_some, Option.map_none, if_true, if_false, decide_eq_true_eq, Bool.false_eq_true, List.take_succ_cons, List.take_zero, List.take_nil, List.drop_succ_cons, List.drop_zero, List.drop_nil, reduceIte, reduceCtorEq]
  refine cl_mapE encB (fun x => encS (x.2, false)) r (by simp only [List.length_nil]; exact Nat.le_of_lt (bigl (by omega))) (fun x Kt hx hq => ?_) ?_
  · simp only [encB, flatD, List.any_cons, List.any_nil, eqv_str, eqv_int, eqv_ti, eqv_it, eqv_st, eqv_ts, cut1, Bool.or_false, Bool.or_true, Bool.and_self, Bool.and_true, Bool.and_false, Bool.false_or, Bool.true_or, and_self, ofs_inj, ofs_app, ofs_len, String.reduceEq, String.reduceNe, String.reduceAppend, decide_true, decide_false, Bool.not_true, Bool.not_false, sz0, sz1, sz2, sz3, sz4, sz5, sz6, sz7, sz8, sz9, sz10, sz11, sz12, sz13, sz14, sz15, sz16, sz17, sz18, sz19, sz20, sz21, sz22, sz23, sz24, sz25, cpow1018, true_and, and_true, Nat.reduceAdd, Nat.reduceLT, Nat.reduceSub, Int.reduceNe, Int.reduceEq, Int.reduceLT, Int.reduceLE, Int.reduceToNat, ne_eq, not_false_eq_true, List.length_map, Nat.lt_irrefl, dV_nx, dV_rt, at0, at1, at2, at3, ix20, ix21, vSeq, vIfS, vTest, vTruth, truth, v2, v1, vN, vCons, vNil, vStar, vVar, vC, xIx, Vl.opI0, Vl.opI, pk, vSet, vAug, vAsg, xgSub, vRet, vRetN, vNext_mk, vDrop, vBreak, vCont, asD, asDs, opMod, opDiv, opMul2, Vl.opAdd, Vl.opAddO, opSub, opPow, opLt, Vl.opLe, opGt, Vl.opGe, xEq, okEq_str, okEq_int, xIn, okIn, inD, xIsN, isNone_n, isNone_t, isNone_l, isNone_i, isNone_s, isMo, mob, pkm, gModI, gDivI, gSubI, gMulI, gPowI, gGt, gLt, gLe, gGe, vNotT, vAndT, vOrT, vAndV, vOrV, opNot, opNotG, vIfE, opTup, opLst, opLstO, Vl.opLen, Vl.opInt, opList, opListO, opTuple, opII, gMax, gMin, vM, vM0, isT, xPop, Vl.opAppend, opExtend, opJoin, vgName, vgTup, vgCons, vgNil, kOpt_some, kOpn_some, kOps_some, Vl.opSum, Vl.opInsert, Vl.opIndex, opDivmod, vSl, vPart, vNoPart, opSl, opSlO, opRev, opCallK, ownD, ownO, objs, renum, uniq, getS, putS, vCall0, vFor, vForW, En.wk, vSeqI, vTupI, vRng1, vRng2, vRngD, vFn, vCallL, vOdd, vWays, vEnum, vZip, chkOf, vLcK, vYes, finD, finO, En.wipe, wipeE, En.trim, trimS, dropNone, clr_n, clr_v, clr_k, clr_o, wth, Vl.ret, takeS, startV,  List.map_cons, List.map_nil, List.length_cons, List.length_nil, List.cons_append, List.nil_append, List.replicate, List.getElem?_cons_succ, List.getElem?_cons_zero, List.getElem?_nil, List.set_cons_succ, List.set_cons_zero, List.set_nil, List.all_nil, List.all_cons, Bool.true_and, Option.map_some, Option.map_none, if_true, if_false, decide_eq_true_eq, Bool.false_eq_true, List.take_succ_cons, List.take_zero, List.take_nil, List.drop_succ_cons, List.drop_zero, List.drop_nil, reduceIte, reduceCtorEq]
    exact hq _ rfl
  · have er : r.map (fun x => encS (x.2, false)) = (rowSd r).map encS := by unfold rowSd; rw [List.map_map]; rfl
    have e0 : (rowSd r).map encS ++ [PyData.tuple [k.enc, PyData.int 1]] = ((k, true) :: (rowSd r).reverse).reverse.map encS := by rw [List.reverse_cons, List.reverse_reverse, List.map_append]; rfl
    have l0 : ((rowSd r).map encS).length = r.length := by rw [List.length_map]; exact rl
    simp only [er, l0, t_Lsides_12, flatD, List.any_cons, List.any_nil, eqv_str, eqv_int, eqv_ti, eqv_it, eqv_st, eqv_ts, cut1, Bool.or_false, Bool.or_true, Bool.and_self, Bool.and_true, Bool.and_false, Bool.false_or, Bool.true_or, and_self, ofs_inj, ofs_app, ofs_len, String.reduceEq, String.reduceNe, String.reduceAppend, decide_true, decide_false, Bool.not_true, Bool.not_false, sz0, sz1, sz2, sz3, sz4, sz5, sz6, sz7, sz8, sz9, sz10, sz11, sz12, sz13, sz14, sz15, sz16, sz17, sz18, sz19, sz20, sz21, sz22, sz23, sz24, sz25, cpow1018, true_and, and_true, Nat.reduceAdd, Nat.reduceLT, Nat.reduceSub, Int.reduceNe, Int.reduceEq, Int.reduceLT, Int.reduceLE, Int.reduceToNat, ne_eq, not_false_eq_true, List.length_map, Nat.lt_irrefl, dV_nx, dV_rt, at0, at1, at2, at3, ix20, ix21, vSeq, vIfS, vTest, vTruth, truth, v2, v1, vN, vCons, vNil, vStar, vVar, vC, xIx, Vl.opI0, Vl.opI, pk, vSet, vAug, vAsg, xgSub, vRet, vRetN, vNext_mk, vDrop, vBreak, vCont, asD, asDs, opMod, opDiv, opMul2, Vl.opAdd, Vl.opAddO, opSub, opPow, opLt, Vl.opLe, opGt, Vl.opGe, xEq, okEq_str, okEq_int, xIn, okIn, inD, xIsN, isNone_n, isNone_t, isNone_l, isNone_i, isNone_s, isMo, mob, pkm, gModI, gDivI, gSubI, gMulI, gPowI, gGt, gLt, gLe, gGe, vNotT, vAndT, vOrT, vAndV, vOrV, opNot, opNotG, vIfE, opTup, opLst, opLstO, Vl.opLen, Vl.opInt, opList, opListO, opTuple, opII, gMax, gMin, vM, vM0, isT, xPop, Vl.opAppend, opExtend, opJoin, vgName, vgTup, vgCons, vgNil, kOpt_some, kOpn_some, kOps_some, Vl.opSum, Vl.opInsert, Vl.opIndex, opDivmod, vSl, vPart, vNoPart, opSl, opSlO, opRev, opCallK, ownD, ownO, objs, renum, uniq, getS, putS, vCall0, vFor, vForW, En.wk, vSeqI, vTupI, vRng1, vRng2, vRngD, vFn, vCallL, vOdd, vWays, vEnum, vZip, chkOf, vLcK, vYes, finD, finO, En.wipe, wipeE, En.trim, trimS, dropNone, clr_n, clr_v, clr_k, clr_o, wth, Vl.ret, takeS, startV,  List.map_cons, List.map_nil, List.length_cons, List.length_nil, List.cons_append, List.nil_append, List.replicate, List.getElem?_cons_succ, List.getElem?_cons_zero, List.getElem?_nil, List.set_cons_succ, List.set_cons_zero, List.set_nil, List.all_nil, List.all_cons, Bool.true_and, Option.map_some, Option.map_none, if_true, if_false, decide_eq_true_eq, Bool.false_eq_true, List.take_succ_cons, List.take_zero, List.take_nil, List.drop_succ_cons, List.drop_zero, List.drop_nil, reduceIte, reduceCtorEq]
    refine ⟨big (by omega), ?_⟩
    rw [e0]
    have h0 : SS (ctAll r k) ((k, true) :: (rowSd r).reverse) [] (fun _ => (0, 0)) := ⟨MR.nil, fun y => by unfold ctAll; simp only [tot, tot_rev]; omega, by simp only [mS, mS_rev, List.length_nil]; omega⟩
    have ok0 : ∀ x ∈ (k, true) :: (rowSd r).reverse, okS x := fun x hx => hok x (by
      rcases List.mem_cons.mp hx with rfl | hx
      · exact List.mem_cons_self
      · exact List.mem_cons_of_mem _ (List.mem_reverse.mp hx))
    have one := fun (D0 : VEnds) (k' : Kd) (s : Bool) (todo : List Sd) (kvs : List (Ky × D)) (f : Ct) => @ls_one D0 (ctAll r k) (.list (r.map encB)) k.enc k' s todo kvs f
    generalize hG : ctAll r k = G at *
    generalize (k, true) :: (rowSd r).reverse = td at *
    generalize PyData.list (r.map encB) = d0 at *
    generalize k.enc = d1 at *
    simp only [t_Lsides_11]
    generalize e9 : t_Lsides_9 = T9 at one
    simp only [flatD, List.any_cons, List.any_nil, eqv_str, eqv_int, eqv_ti, eqv_it, eqv_st, eqv_ts, cut1, Bool.or_false, Bool.or_true, Bool.and_self, Bool.and_true, Bool.and_false, Bool.false_or, Bool.true_or, and_self, ofs_inj, ofs_app, ofs_len, String.reduceEq, String.reduceNe, String.reduceAppend, decide_true, decide_false, Bool.not_true, Bool.not_false, sz0, sz1, sz2, sz3, sz4, sz5, sz6, sz7, sz8, sz9, sz10, sz11, sz12, sz13, sz14, sz15, sz16, sz17, sz18, sz19, sz20, sz21, sz22, sz23, sz24, sz25, cpow1018, true_and, and_true, Nat.reduceAdd, Nat.reduceLT, Nat.reduceSub, Int.reduceNe, Int.reduceEq, Int.reduceLT, Int.reduceLE, Int.reduceToNat, ne_eq, not_false_eq_true, List.length_map, Nat.lt_irrefl, dV_nx, dV_rt, at0, at1, at2, at3, ix20, ix21, vSeq, vIfS, vTest, vTruth, truth, v2, v1, vN, vCons, vNil, vStar, vVar, vC, xIx, Vl.opI0, Vl.opI, pk, vSet, vAug, vAsg, xgSub, vRet, vRetN, vNext_mk, vDrop, vBreak, vCont, asD, asDs, opMod, opDiv, opMul2, Vl.opAdd, Vl.opAddO, opSub, opPow, opLt, Vl.opLe, opGt, Vl.opGe, xEq, okEq_str, okEq_int, xIn, okIn, inD, xIsN, isNone_n, isNone_t, isNone_l, isNone_i, isNone_s, isMo, mob, pkm, gModI, gDivI, gSubI, gMulI, gPowI, gGt, gLt, gLe, gGe, vNotT, vAndT, vOrT, vAndV, vOrV, opNot, opNotG, vIfE, opTup, opLst, opLstO, Vl.opLen, Vl.opInt, opList, opListO, opTuple, opII, gMax, gMin, vM, vM0, isT, xPop, Vl.opAppend, opExtend, opJoin, vgName, vgTup, vgCons, vgNil, kOpt_some, kOpn_some, kOps_some, Vl.opSum, Vl.opInsert, Vl.opIndex, opDivmod, vSl, vPart, vNoPart, opSl, opSlO, opRev, opCallK, ownD, ownO, objs, renum, uniq, getS, putS, vCall0, vFor, vForW, En.wk, vSeqI, vTupI, vRng1, vRng2, vRngD, vFn, vCallL, vOdd, vWays, vEnum, vZip, chkOf, vLcK, vYes, finD, finO, En.wipe, wipeE, En.trim, trimS, dropNone, clr_n, clr_v, clr_k, clr_o, wth, Vl.ret, takeS, startV,  List.map_cons, List.map_nil, List.length_cons, List.length_nil, List.cons_append, List.nil_append, List.replicate, List.getElem?_cons_succ, List.getElem?_cons_zero, List.getElem?_nil, List.set_cons_succ, List.set_cons_zero, List.set_nil, List.all_nil, List.all_cons, Bool.true_and, Option.map_some, Option.map_none, if_true, if_false, decide_eq_true_eq, Bool.false_eq_true, List.take_succ_cons, List.take_zero, List.take_nil, List.drop_succ_cons, List.drop_zero, List.drop_nil, reduceIte, reduceCtorEq]
    refine while_invW (fun m e => ∃ (todo : List Sd) (kvs : List (Ky × D)) (f : Ct), e = eL d0 d1 none none none todo kvs [] ∧ SS G todo kvs f ∧ (∀ x ∈ todo, okS x) ∧ m = mS todo) ?_ (m := mS td) ⟨td, [], _, rfl, h0, ok0, rfl⟩
    rintro m e Nx ⟨todo, kvs, f, rfl, h, hk, rfl⟩ hN
    have st : Vl.shp (.list (todo.reverse.map encS)) = true := shp_stack fun x hx => hk x (List.mem_reverse.mp hx)
    have sn : okEq (.list (todo.reverse.map encS)) (.list []) := okEq_of st (shp_stack (l := []) fun x hx => by cases hx)
    simp only [eqv_nil, flatD, List.any_cons, List.any_nil, eqv_str, eqv_int, eqv_ti, eqv_it, eqv_st, eqv_ts, cut1, Bool.or_false, Bool.or_true, Bool.and_self, Bool.and_true, Bool.and_false, Bool.false_or, Bool.true_or, and_self, ofs_inj, ofs_app, ofs_len, String.reduceEq, String.reduceNe, String.reduceAppend, decide_true, decide_false, Bool.not_true, Bool.not_false, sz0, sz1, sz2, sz3, sz4, sz5, sz6, sz7, sz8, sz9, sz10, sz11, sz12, sz13, sz14, sz15, sz16, sz17, sz18, sz19, sz20, sz21, sz22, sz23, sz24, sz25, cpow1018, true_and, and_true, Nat.reduceAdd, Nat.reduceLT, Nat.reduceSub, Int.reduceNe, Int.reduceEq, Int.reduceLT, Int.reduceLE, Int.reduceToNat, ne_eq, not_false_eq_true, List.length_map, Nat.lt_irrefl, dV_nx, dV_rt, at0, at1, at2, at3, ix20, ix21, vSeq, vIfS, vTest, vTruth, truth, v2, v1, vN, vCons, vNil, vStar, vVar, vC, xIx, Vl.opI0, Vl.opI, pk, vSet, vAug, vAsg, xgSub, vRet, vRetN, vNext_mk, vDrop, vBreak, vCont, asD, asDs, opMod, opDiv, opMul2, Vl.opAdd, Vl.opAddO, opSub, opPow, opLt, Vl.opLe, opGt, Vl.opGe, xEq, okEq_str, okEq_int, xIn, okIn, inD, xIsN, isNone_n, isNone_t, isNone_l, isNone_i, isNone_s, isMo, mob, pkm, gModI, gDivI, gSubI, gMulI, gPowI, gGt, gLt, gLe, gGe, vNotT, vAndT, vOrT, vAndV, vOrV, opNot, opNotG, vIfE, opTup, opLst, opLstO, Vl.opLen, Vl.opInt, opList, opListO, opTuple, opII, gMax, gMin, vM, vM0, isT, xPop, Vl.opAppend, opExtend, opJoin, vgName, vgTup, vgCons, vgNil, kOpt_some, kOpn_some, kOps_some, Vl.opSum, Vl.opInsert, Vl.opIndex, opDivmod, vSl, vPart, vNoPart, opSl, opSlO, opRev, opCallK, ownD, ownO, objs, renum, uniq, getS, putS, vCall0, vFor, vForW, En.wk, vSeqI, vTupI, vRng1, vRng2, vRngD, vFn, vCallL, vOdd, vWays, vEnum, vZip, chkOf, vLcK, vYes, finD, finO, En.wipe, wipeE, En.trim, trimS, dropNone, clr_n, clr_v, clr_k, clr_o, wth, Vl.ret, takeS, startV,  List.map_cons, List.map_nil, List.length_cons, List.length_nil, List.cons_append, List.nil_append, List.replicate, List.getElem?_cons_succ, List.getElem?_cons_zero, List.getElem?_nil, List.set_cons_succ, List.set_cons_zero, List.set_nil, List.all_nil, List.all_cons, Bool.true_and, Option.map_some, Option.map_none, if_true, if_false, decide_eq_true_eq, Bool.false_eq_true, List.take_succ_cons, List.take_zero, List.take_nil, List.drop_succ_cons, List.drop_zero, List.drop_nil, reduceIte, reduceCtorEq]
    refine ⟨sn, ?_⟩
    cases todo with
    | nil =>
      have ef : f = G := funext fun y => by
        have := h.sum y
        simp only [tot, Nat.add_zero] at this
        exact Prod.ext this.1 this.2
      subst ef
      have e1 : (([] : List Sd).reverse.map encS).isEmpty = true := rfl
      simp only [e1, t_Lsides_10, flatD, List.any_cons, List.any_nil, eqv_str, eqv_int, eqv_ti, eqv_it, eqv_st, eqv_ts, cut1, Bool.or_false, Bool.or_true, Bool.and_self, Bool.and_true, Bool.and_false, Bool.false_or, Bool.true_or, and_self, ofs_inj, ofs_app, ofs_len, String.reduceEq, String.reduceNe, String.reduceAppend, decide_true, decide_false, Bool.not_true, Bool.not_false, sz0, sz1, sz2, sz3, sz4, sz5, sz6, sz7, sz8, sz9, sz10, sz11, sz12, sz13, sz14, sz15, sz16, sz17, sz18, sz19, sz20, sz21, sz22, sz23, sz24, sz25, cpow1018, true_and, and_true, Nat.reduceAdd, Nat.reduceLT, Nat.reduceSub, Int.reduceNe, Int.reduceEq, Int.reduceLT, Int.reduceLE, Int.reduceToNat, ne_eq, not_false_eq_true, List.length_map, Nat.lt_irrefl, dV_nx, dV_rt, at0, at1, at2, at3, ix20, ix21, vSeq, vIfS, vTest, vTruth, truth, v2, v1, vN, vCons, vNil, vStar, vVar, vC, xIx, Vl.opI0, Vl.opI, pk, vSet, vAug, vAsg, xgSub, vRet, vRetN, vNext_mk, vDrop, vBreak, vCont, asD, asDs, opMod, opDiv, opMul2, Vl.opAdd, Vl.opAddO, opSub, opPow, opLt, Vl.opLe, opGt, Vl.opGe, xEq, okEq_str, okEq_int, xIn, okIn, inD, xIsN, isNone_n, isNone_t, isNone_l, isNone_i, isNone_s, isMo, mob, pkm, gModI, gDivI, gSubI, gMulI, gPowI, gGt, gLt, gLe, gGe, vNotT, vAndT, vOrT, vAndV, vOrV, opNot, opNotG, vIfE, opTup, opLst, opLstO, Vl.opLen, Vl.opInt, opList, opListO, opTuple, opII, gMax, gMin, vM, vM0, isT, xPop, Vl.opAppend, opExtend, opJoin, vgName, vgTup, vgCons, vgNil, kOpt_some, kOpn_some, kOps_some, Vl.opSum, Vl.opInsert, Vl.opIndex, opDivmod, vSl, vPart, vNoPart, opSl, opSlO, opRev, opCallK, ownD, ownO, objs, renum, uniq, getS, putS, vCall0, vFor, vForW, En.wk, vSeqI, vTupI, vRng1, vRng2, vRngD, vFn, vCallL, vOdd, vWays, vEnum, vZip, chkOf, vLcK, vYes, finD, finO, En.wipe, wipeE, En.trim, trimS, dropNone, clr_n, clr_v, clr_k, clr_o, wth, Vl.ret, takeS, startV,  List.map_cons, List.map_nil, List.length_cons, List.length_nil, List.cons_append, List.nil_append, List.replicate, List.getElem?_cons_succ, List.getElem?_cons_zero, List.getElem?_nil, List.set_cons_succ, List.set_cons_zero, List.set_nil, List.all_nil, List.all_cons, Bool.true_and, Option.map_some, Option.map_none, if_true, if_false, decide_eq_true_eq, Bool.false_eq_true, List.take_succ_cons, List.take_zero, List.take_nil, List.drop_succ_cons, List.drop_zero, List.drop_nil, reduceIte, reduceCtorEq]
      exact q kvs h.mr
    | cons x todo =>
      obtain ⟨k', s⟩ := x
      have e1 : (((k', s) :: todo).reverse.map encS).isEmpty = false := by simp
      simp only [e1, flatD, List.any_cons, List.any_nil, eqv_str, eqv_int, eqv_ti, eqv_it, eqv_st, eqv_ts, cut1, Bool.or_false, Bool.or_true, Bool.and_self, Bool.and_true, Bool.and_false, Bool.false_or, Bool.true_or, and_self, ofs_inj, ofs_app, ofs_len, String.reduceEq, String.reduceNe, String.reduceAppend, decide_true, decide_false, Bool.not_true, Bool.not_false, sz0, sz1, sz2, sz3, sz4, sz5, sz6, sz7, sz8, sz9, sz10, sz11, sz12, sz13, sz14, sz15, sz16, sz17, sz18, sz19, sz20, sz21, sz22, sz23, sz24, sz25, cpow1018, true_and, and_true, Nat.reduceAdd, Nat.reduceLT, Nat.reduceSub, Int.reduceNe, Int.reduceEq, Int.reduceLT, Int.reduceLE, Int.reduceToNat, ne_eq, not_false_eq_true, List.length_map, Nat.lt_irrefl, dV_nx, dV_rt, at0, at1, at2, at3, ix20, ix21, vSeq, vIfS, vTest, vTruth, truth, v2, v1, vN, vCons, vNil, vStar, vVar, vC, xIx, Vl.opI0, Vl.opI, pk, vSet, vAug, vAsg, xgSub, vRet, vRetN, vNext_mk, vDrop, vBreak, vCont, asD, asDs, opMod, opDiv, opMul2, Vl.opAdd, Vl.opAddO, opSub, opPow, opLt, Vl.opLe, opGt, Vl.opGe, xEq, okEq_str, okEq_int, xIn, okIn, inD, xIsN, isNone_n, isNone_t, isNone_l, isNone_i, isNone_s, isMo, mob, pkm, gModI, gDivI, gSubI, gMulI, gPowI, gGt, gLt, gLe, gGe, vNotT, vAndT, vOrT, vAndV, vOrV, opNot, opNotG, vIfE, opTup, opLst, opLstO, Vl.opLen, Vl.opInt, opList, opListO, opTuple, opII, gMax, gMin, vM, vM0, isT, xPop, Vl.opAppend, opExtend, opJoin, vgName, vgTup, vgCons, vgNil, kOpt_some, kOpn_some, kOps_some, Vl.opSum, Vl.opInsert, Vl.opIndex, opDivmod, vSl, vPart, vNoPart, opSl, opSlO, opRev, opCallK, ownD, ownO, objs, renum, uniq, getS, putS, vCall0, vFor, vForW, En.wk, vSeqI, vTupI, vRng1, vRng2, vRngD, vFn, vCallL, vOdd, vWays, vEnum, vZip, chkOf, vLcK, vYes, finD, finO, En.wipe, wipeE, En.trim, trimS, dropNone, clr_n, clr_v, clr_k, clr_o, wth, Vl.ret, takeS, startV,  List.map_cons, List.map_nil, List.length_cons, List.length_nil, List.cons_append, List.nil_append, List.replicate, List.getElem?_cons_succ, List.getElem?_cons_zero, List.getElem?_nil, List.set_cons_succ, List.set_cons_zero, List.set_nil, List.all_nil, List.all_cons, Bool.true_and, Option.map_some, Option.map_none, if_true, if_false, decide_eq_true_eq, Bool.false_eq_true, List.take_succ_cons, List.take_zero, List.take_nil, List.drop_succ_cons, List.drop_zero, List.drop_nil, reduceIte, reduceCtorEq]
      refine one _ k' s todo kvs f h (hk _ List.mem_cons_self) fun new kvs' f' s4 s5 s6 more hmo hm ho h' => hN (mS (new ++ todo)) _ 2 [4, 5, 6] hm (Nat.le_refl _) ⟨new ++ todo, kvs', f', ?_, h', fun x hx => ?_, rfl⟩
      · rcases hmo with rfl | ⟨l, rfl⟩ <;> rfl
      · rcases List.mem_append.mp hx with hx | hx
        · exact ho x hx
        · exact hk x (List.mem_cons_of_mem _ hx)
end Kf
namespace Kf
open PySem L2 Vl PySem.Spec PyProof.Rows
def t_Lcasev4_1 (p_Ltake p_Lkind : VSp) : VTS := (vDrop (vM "list" opAppend (vVar 5) (vCons (vN opTup (vCons (vVar 6) (vCons (vN (opCallK ownD p_Lkind) (vCons (vVar 0) (vCons (vVar 7) (vCons (vN opLst (vCons (vC (.str "a")) (vCons (vC (.str "to")) (vCons (vC (.str "one")) vNil)))) vNil)))) vNil))) vNil)))
def t_Lcasev4_2 (p_Ltake p_Lkind : VSp) : VTS := vSeq (vSet 3 (v2 opAdd (vVar 3) (vVar 7))) (t_Lcasev4_1 p_Ltake p_Lkind)
def t_Lcasev4_3 (p_Ltake p_Lkind : VSp) : VTS := vSeq (vSet 7 (v2 opAdd (vC (.int 1)) (vN (opCallK ownD p_Ltake) (vCons (vVar 0) (vCons (v2 opSub (vVar 2) (vVar 3)) vNil))))) (t_Lcasev4_2 p_Ltake p_Lkind)
def t_Lcasev4_4 (p_Ltake p_Lkind : VSp) : VTS := (vIfS (vTest (v2 opLt (vVar 3) (vVar 2))) (t_Lcasev4_3 p_Ltake p_Lkind) vNext)
def t_Lcasev4_5 (p_Ltake p_Lkind : VSp) : VTS := (vRet (vN opTup (vCons (vVar 5) (vCons (vVar 4) vNil))))
def t_Lcasev4_6 (p_Ltake p_Lkind : VSp) : VTS := vSeq (vForW (vSeqI (vN opLst (vCons (vC (.str "f")) (vCons (vC (.str "g")) (vCons (vC (.str "h")) (vCons (vC (.str "i")) vNil)))))) (vgName 6)
      (t_Lcasev4_4 p_Ltake p_Lkind)) (t_Lcasev4_5 p_Ltake p_Lkind)
def t_Lcasev4_7 (p_Ltake p_Lkind : VSp) : VTS := vSeq (vSet 5 (vN opLstO vNil)) (t_Lcasev4_6 p_Ltake p_Lkind)
def t_Lcasev4_8 (p_Ltake p_Lkind : VSp) : VTS := vSeq (vSet 4 (vN (opCallK ownD p_Lkind) (vCons (vVar 0) (vCons (vVar 3) (vCons (vN opLst (vCons (vC (.str "a")) (vCons (vC (.str "to")) (vCons (vC (.str "one")) vNil)))) vNil))))) (t_Lcasev4_7 p_Ltake p_Lkind)
def t_Lcasev4_9 (p_Ltake p_Lkind : VSp) : VTS := vSeq (vSet 3 (v2 opAdd (vC (.int 1)) (vN (opCallK ownD p_Ltake) (vCons (vVar 0) (vCons (vVar 2) vNil))))) (t_Lcasev4_8 p_Ltake p_Lkind)
def t_Lcasev4_10 (p_Ltake p_Lkind : VSp) : VTS := vSeq (vSet 2 (v2 opAdd (vC (.int 1)) (vN (opCallK ownD p_Ltake) (vCons (vVar 0) (vCons (vVar 1) vNil))))) (t_Lcasev4_9 p_Ltake p_Lkind)
def t_Lcasev4 (p_Ltake p_Lkind : VSp) : VTS := (t_Lcasev4_10 p_Ltake p_Lkind)
end Kf
namespace Kf
open PySem L2 Vl PySem.Spec PyProof.Rows
def sumL : List (Str × Kd) → Nat
  | [] => 0
  | x :: r => x.2.leaves + sumL r
theorem sumL_app (a b : List (Str × Kd)) : sumL (a ++ b) = sumL a + sumL b := by
  induction a with
  | nil => simp [sumL]
  | cons x a ih => simp only [List.cons_append, sumL, ih]; omega
theorem mS_sumL : ∀ r : List (Str × Kd), mS (rowSd r) ≤ 2 * sumL r
  | [] => Nat.le_refl _
  | x :: r => by
    have := mS_sumL r
    show (2 * x.2.leaves - 1) + mS (rowSd r) ≤ 2 * (x.2.leaves + sumL r)
    omega
/-- a row and a kind of at most so many leaves in all -/
structure Cs (r : List (Str × Kd)) (k : Kd) : Prop where
  ok : ∀ x ∈ (k, true) :: rowSd r, okS x
  few : mS ((k, true) :: rowSd r) ≤ 24
  len : r.length ≤ 4
  nm : ∀ x ∈ r, x.1 ∈ (["f", "g", "h", "i"] : List Str)
def pCase : VSp := fun ss st Kp => ∃ c n : Int, ss = [.obj 0, .val (.int 12)] ∧ st = [.l [.int c, .int n]] ∧ PoolK n ∧ ∀ (r : List (Str × Kd)) (k : Kd) (c' n' : Int), Cs r k → PoolK n' → Kp (.val (.tuple [.list (r.map encB), k.enc])) [.l [.int c', .int n']]
theorem Kd.ok67 {k : Kd} (h : k.over m67) (hl : k.leaves ≤ 12) (s : Bool) : okS (k, s) := ⟨h, by have := k.deep_lt; show k.deep ≤ 100; omega⟩
theorem r_Lcase {ss cs Kp} (h : pCase ss cs Kp) : t_Lcasev4 pTake (pKind 12) (dV cs.length Kp) ⟨startV 8 ss, cs.map some⟩ := by
  obtain ⟨c, n, rfl, rfl, pn, q⟩ := h
  simp only [t_Lcasev4, t_Lcasev4_10, pTake, flatD, List.any_cons, List.any_nil, eqv_str, eqv_int, eqv_ti, eqv_it, eqv_st, eqv_ts, cut1, Bool.or_false, Bool.or_true, Bool.and_self, Bool.and_true, Bool.and_false, Bool.false_or, Bool.true_or, and_self, ofs_inj, ofs_app, ofs_len, String.reduceEq, String.reduceNe, String.reduceAppend, decide_true, decide_false, Bool.not_true, Bool.not_false, sz0, sz1, sz2, sz3, sz4, sz5, sz6, sz7, sz8, sz9, sz10, sz11, sz12, sz13, sz14, sz15, sz16, sz17, sz18, sz19, sz20, sz21, sz22, sz23, sz24, sz25, cpow1018, true_and, and_true, Nat.reduceAdd, Nat.reduceLT, Nat.reduceSub, Int.reduceNe, Int.reduceEq, Int.reduceLT, Int.reduceLE, Int.reduceToNat, ne_eq, not_false_eq_true, List.length_map, Nat.lt_irrefl, dV_nx, dV_rt, at0, at1, at2, at3, ix20, ix21, vSeq, vIfS, vTest, vTruth, truth, v2, v1, vN, vCons, vNil, vStar, vVar, vC, xIx, Vl.opI0, Vl.opI, pk, vSet, vAug, vAsg, xgSub, vRet, vRetN, vNext_mk, vDrop, vBreak, vCont, asD, asDs, opMod, opDiv, opMul2, Vl.opAdd, Vl.opAddO, opSub, opPow, opLt, Vl.opLe, opGt, Vl.opGe, xEq, okEq_str, okEq_int, xIn, okIn, inD, xIsN, isNone_n, isNone_t, isNone_l, isNone_i, isNone_s, isMo, mob, pkm, gModI, gDivI, gSubI, gMulI, gPowI, gGt, gLt, gLe, gGe, vNotT, vAndT, vOrT, vAndV, vOrV, opNot, opNotG, vIfE, opTup, opLst, opLstO, Vl.opLen, Vl.opInt, opList, opListO, opTuple, opII, gMax, gMin, vM, vM0, isT, xPop, Vl.opAppend, opExtend, opJoin, vgName, vgTup, vgCons, vgNil, kOpt_some, kOpn_some, kOps_some, Vl.opSum, Vl.opInsert, Vl.opIndex, opDivmod, vSl, vPart, vNoPart, opSl, opSlO, opRev, opCallK, ownD, ownO, objs, renum, uniq, getS, putS, vCall0, vFor, vForW, En.wk, vSeqI, vTupI, vRng1, vRng2, vRngD, vFn, vCallL, vOdd, vWays, vEnum, vZip, chkOf, vLcK, vYes, finD, finO, En.wipe, wipeE, En.trim, trimS, dropNone, clr_n, clr_v, clr_k, clr_o, wth, Vl.ret, takeS, startV,  List.map_cons, List.map_nil, List.length_cons, List.length_nil, List.cons_append, List.nil_append, List.replicate, List.getElem?_cons_succ, List.getElem?_cons_zero, List.getElem?_nil, List.set_cons_succ, List.set_cons_zero, List.set_nil, List.all_nil, List.all_cons, Bool.true_and, Option.map_some, Option.map_none, if_true, if_false, decide_eq_true_eq, Bool.false_eq_true, List.take_succ_cons, List.take_zero, List.take_nil, List.drop_succ_cons, List.drop_zero, List.drop_nil, reduceIte, reduceCtorEq]
  refine ⟨pn, fun a c1 n1 a0 a1 pn1 => ?_⟩
  simp only [t_Lcasev4_9, pTake, flatD, List.any_cons, List.any_nil, eqv_str, eqv_int, eqv_ti, eqv_it, eqv_st, eqv_ts, cut1, Bool.or_false, Bool.or_true, Bool.and_self, Bool.and_true, Bool.and_false, Bool.false_or, Bool.true_or, and_self, ofs_inj, ofs_app, ofs_len, String.reduceEq, String.reduceNe, String.reduceAppend, decide_true, decide_false, Bool.not_true, Bool.not_false, sz0, sz1, sz2, sz3, sz4, sz5, sz6, sz7, sz8, sz9, sz10, sz11, sz12, sz13, sz14, sz15, sz16, sz17, sz18, sz19, sz20, sz21, sz22, sz23, sz24, sz25, cpow1018, true_and, and_true, Nat.reduceAdd, Nat.reduceLT, Nat.reduceSub, Int.reduceNe, Int.reduceEq, Int.reduceLT, Int.reduceLE, Int.reduceToNat, ne_eq, not_false_eq_true, List.length_map, Nat.lt_irrefl, dV_nx, dV_rt, at0, at1, at2, at3, ix20, ix21, vSeq, vIfS, vTest, vTruth, truth, v2, v1, vN, vCons, vNil, vStar, vVar, vC, xIx, Vl.opI0, Vl.opI, pk, vSet, vAug, vAsg, xgSub, vRet, vRetN, vNext_mk, vDrop, vBreak, vCont, asD, asDs, opMod, opDiv, opMul2, Vl.opAdd, Vl.opAddO, opSub, opPow, opLt, Vl.opLe, opGt, Vl.opGe, xEq, okEq_str, okEq_int, xIn, okIn, inD, xIsN, isNone_n, isNone_t, isNone_l, isNone_i, isNone_s, isMo, mob, pkm, gModI, gDivI, gSubI, gMulI, gPowI, gGt, gLt, gLe, gGe, vNotT, vAndT, vOrT, vAndV, vOrV, opNot, opNotG, vIfE, opTup, opLst, opLstO, Vl.opLen, Vl.opInt, opList, opListO, opTuple, opII, gMax, gMin, vM, vM0, isT, xPop, Vl.opAppend, opExtend, opJoin, vgName, vgTup, vgCons, vgNil, kOpt_some, kOpn_some, kOps_some, Vl.opSum, Vl.opInsert, Vl.opIndex, opDivmod, vSl, vPart, vNoPart, opSl, opSlO, opRev, opCallK, ownD, ownO, objs, renum, uniq, getS, putS, vCall0, vFor, vForW, En.wk, vSeqI, vTupI, vRng1, vRng2, vRngD, vFn, vCallL, vOdd, vWays, vEnum, vZip, chkOf, vLcK, vYes, finD, finO, En.wipe, wipeE, En.trim, trimS, dropNone, clr_n, clr_v, clr_k, clr_o, wth, Vl.ret, takeS, startV,  List.map_cons, List.map_nil, List.length_cons, List.length_nil, List.cons_append, List.nil_append, List.replicate, List.getElem?_cons_succ, List.getElem?_cons_zero, List.getElem?_nil, List.set_cons_succ, List.set_cons_zero, List.set_nil, List.all_nil, List.all_cons, Bool.true_and, Option.map_some, Option.map_none, if_true, if_false, decide_eq_true_eq, Bool.false_eq_true, List.take_succ_cons, List.take_zero, List.take_nil, List.drop_succ_cons, List.drop_zero, List.drop_nil, reduceIte, reduceCtorEq]
  refine ⟨pn1, by omega, by omega, fun b c2 n2 b0 b1 pn2 => ?_⟩
  simp only [t_Lcasev4_8, pKind, flatD, List.any_cons, List.any_nil, eqv_str, eqv_int, eqv_ti, eqv_it, eqv_st, eqv_ts, cut1, Bool.or_false, Bool.or_true, Bool.and_self, Bool.and_true, Bool.and_false, Bool.false_or, Bool.true_or, and_self, ofs_inj, ofs_app, ofs_len, String.reduceEq, String.reduceNe, String.reduceAppend, decide_true, decide_false, Bool.not_true, Bool.not_false, sz0, sz1, sz2, sz3, sz4, sz5, sz6, sz7, sz8, sz9, sz10, sz11, sz12, sz13, sz14, sz15, sz16, sz17, sz18, sz19, sz20, sz21, sz22, sz23, sz24, sz25, cpow1018, true_and, and_true, Nat.reduceAdd, Nat.reduceLT, Nat.reduceSub, Int.reduceNe, Int.reduceEq, Int.reduceLT, Int.reduceLE, Int.reduceToNat, ne_eq, not_false_eq_true, List.length_map, Nat.lt_irrefl, dV_nx, dV_rt, at0, at1, at2, at3, ix20, ix21, vSeq, vIfS, vTest, vTruth, truth, v2, v1, vN, vCons, vNil, vStar, vVar, vC, xIx, Vl.opI0, Vl.opI, pk, vSet, vAug, vAsg, xgSub, vRet, vRetN, vNext_mk, vDrop, vBreak, vCont, asD, asDs, opMod, opDiv, opMul2, Vl.opAdd, Vl.opAddO, opSub, opPow, opLt, Vl.opLe, opGt, Vl.opGe, xEq, okEq_str, okEq_int, xIn, okIn, inD, xIsN, isNone_n, isNone_t, isNone_l, isNone_i, isNone_s, isMo, mob, pkm, gModI, gDivI, gSubI, gMulI, gPowI, gGt, gLt, gLe, gGe, vNotT, vAndT, vOrT, vAndV, vOrV, opNot, opNotG, vIfE, opTup, opLst, opLstO, Vl.opLen, Vl.opInt, opList, opListO, opTuple, opII, gMax, gMin, vM, vM0, isT, xPop, Vl.opAppend, opExtend, opJoin, vgName, vgTup, vgCons, vgNil, kOpt_some, kOpn_some, kOps_some, Vl.opSum, Vl.opInsert, Vl.opIndex, opDivmod, vSl, vPart, vNoPart, opSl, opSlO, opRev, opCallK, ownD, ownO, objs, renum, uniq, getS, putS, vCall0, vFor, vForW, En.wk, vSeqI, vTupI, vRng1, vRng2, vRngD, vFn, vCallL, vOdd, vWays, vEnum, vZip, chkOf, vLcK, vYes, finD, finO, En.wipe, wipeE, En.trim, trimS, dropNone, clr_n, clr_v, clr_k, clr_o, wth, Vl.ret, takeS, startV,  List.map_cons, List.map_nil, List.length_cons, List.length_nil, List.cons_append, List.nil_append, List.replicate, List.getElem?_cons_succ, List.getElem?_cons_zero, List.getElem?_nil, List.set_cons_succ, List.set_cons_zero, List.set_nil, List.all_nil, List.all_cons, Bool.true_and, Option.map_some, Option.map_none, if_true, if_false, decide_eq_true_eq, Bool.false_eq_true, List.take_succ_cons, List.take_zero, List.take_nil, List.drop_succ_cons, List.drop_zero, List.drop_nil, reduceIte, reduceCtorEq]
  refine ⟨pn2, by omega, by omega, by omega, m67, rfl, by decide, by decide, fun k c3 n3 kl ko pn3 => ?_⟩
  simp only [t_Lcasev4_7, flatD, List.any_cons, List.any_nil, eqv_str, eqv_int, eqv_ti, eqv_it, eqv_st, eqv_ts, cut1, Bool.or_false, Bool.or_true, Bool.and_self, Bool.and_true, Bool.and_false, Bool.false_or, Bool.true_or, and_self, ofs_inj, ofs_app, ofs_len, String.reduceEq, String.reduceNe, String.reduceAppend, decide_true, decide_false, Bool.not_true, Bool.not_false, sz0, sz1, sz2, sz3, sz4, sz5, sz6, sz7, sz8, sz9, sz10, sz11, sz12, sz13, sz14, sz15, sz16, sz17, sz18, sz19, sz20, sz21, sz22, sz23, sz24, sz25, cpow1018, true_and, and_true, Nat.reduceAdd, Nat.reduceLT, Nat.reduceSub, Int.reduceNe, Int.reduceEq, Int.reduceLT, Int.reduceLE, Int.reduceToNat, ne_eq, not_false_eq_true, List.length_map, Nat.lt_irrefl, dV_nx, dV_rt, at0, at1, at2, at3, ix20, ix21, vSeq, vIfS, vTest, vTruth, truth, v2, v1, vN, vCons, vNil, vStar, vVar, vC, xIx, Vl.opI0, Vl.opI, pk, vSet, vAug, vAsg, xgSub, vRet, vRetN, vNext_mk, vDrop, vBreak, vCont, asD, asDs, opMod, opDiv, opMul2, Vl.opAdd, Vl.opAddO, opSub, opPow, opLt, Vl.opLe, opGt, Vl.opGe, xEq, okEq_str, okEq_int, xIn, okIn, inD, xIsN, isNone_n, isNone_t, isNone_l, isNone_i, isNone_s, isMo, mob, pkm, gModI, gDivI, gSubI, gMulI, gPowI, gGt, gLt, gLe, gGe, vNotT, vAndT, vOrT, vAndV, vOrV, opNot, opNotG, vIfE, opTup, opLst, opLstO, Vl.opLen, Vl.opInt, opList, opListO, opTuple, opII, gMax, gMin, vM, vM0, isT, xPop, Vl.opAppend, opExtend, opJoin, vgName, vgTup, vgCons, vgNil, kOpt_some, kOpn_some, kOps_some, Vl.opSum, Vl.opInsert, Vl.opIndex, opDivmod, vSl, vPart, vNoPart, opSl, opSlO, opRev, opCallK, ownD, ownO, objs, renum, uniq, getS, putS, vCall0, vFor, vForW, En.wk, vSeqI, vTupI, vRng1, vRng2, vRngD, vFn, vCallL, vOdd, vWays, vEnum, vZip, chkOf, vLcK, vYes, finD, finO, En.wipe, wipeE, En.trim, trimS, dropNone, clr_n, clr_v, clr_k, clr_o, wth, Vl.ret, takeS, startV,  List.map_cons, List.map_nil, List.length_cons, List.length_nil, List.cons_append, List.nil_append, List.replicate, List.getElem?_cons_succ, List.getElem?_cons_zero, List.getElem?_nil, List.set_cons_succ, List.set_cons_zero, List.set_nil, List.all_nil, List.all_cons, Bool.true_and, Option.map_some, Option.map_none, if_true, if_false, decide_eq_true_eq, Bool.false_eq_true, List.take_succ_cons, List.take_zero, List.take_nil, List.drop_succ_cons, List.drop_zero, List.drop_nil, reduceIte, reduceCtorEq]
  have lk := k.leaves_pos
  have body : ∀ (D0 : VEnds) (x : Str) (own : Int) (r : List (Str × Kd)) (c n : Int), PoolK n → 1 ≤ own → own ≤ 1 + a → r.length < 1000 → (∀ (s7 : Option Sl) (own' : Int) (c' n' : Int) (e : List (Str × Kd)), PoolK n' → own' ≤ 1 + a → (e = [] ∧ own' = own ∨ ∃ κ : Kd, e = [(x, κ)] ∧ κ.over m67 ∧ (κ.leaves : Int) + own = own') → D0.nx ⟨[some (.obj 0), some (.val (.int 12)), some (.val (.int (1 + a))), some (.val (.int own')), some (.val k.enc), some (.obj 1), some (.val (.str x)), s7], [some (.l [.int c', .int n']), some (.l ((r ++ e).map encB))]⟩) →
      t_Lcasev4_4 pTake (pKind 12) D0 ⟨[some (.obj 0), some (.val (.int 12)), some (.val (.int (1 + a))), some (.val (.int own)), some (.val k.enc), some (.obj 1), some (.val (.str x)), none], [some (.l [.int c, .int n]), some (.l (r.map encB))]⟩ := by
    intro D0 x own r c n pn o1 o2 rl k1
    have lr : (r.map encB).length = r.length := List.length_map _
    by_cases g : own < 1 + a
    · have g1 : (own < 1 + a) ↔ True := ⟨fun _ => trivial, fun _ => g⟩
      simp only [t_Lcasev4_4, g1, flatD, List.any_cons, List.any_nil, eqv_str, eqv_int, eqv_ti, eqv_it, eqv_st, eqv_ts, cut1, Bool.or_false, Bool.or_true, Bool.and_self, Bool.and_true, Bool.and_false, Bool.false_or, Bool.true_or, and_self, ofs_inj, ofs_app, ofs_len, String.reduceEq, String.reduceNe, String.reduceAppend, decide_true, decide_false, Bool.not_true, Bool.not_false, sz0, sz1, sz2, sz3, sz4, sz5, sz6, sz7, sz8, sz9, sz10, sz11, sz12, sz13, sz14, sz15, sz16, sz17, sz18, sz19, sz20, sz21, sz22, sz23, sz24, sz25, cpow1018, true_and, and_true, Nat.reduceAdd, Nat.reduceLT, Nat.reduceSub, Int.reduceNe, Int.reduceEq, Int.reduceLT, Int.reduceLE, Int.reduceToNat, ne_eq, not_false_eq_true, List.length_map, Nat.lt_irrefl, dV_nx, dV_rt, at0, at1, at2, at3, ix20, ix21, vSeq, vIfS, vTest, vTruth, truth, v2, v1, vN, vCons, vNil, vStar, vVar, vC, xIx, Vl.opI0, Vl.opI, pk, vSet, vAug, vAsg, xgSub, vRet, vRetN, vNext_mk, vDrop, vBreak, vCont, asD, asDs, opMod, opDiv, opMul2, Vl.opAdd, Vl.opAddO, opSub, opPow, opLt, Vl.opLe, opGt, Vl.opGe, xEq, okEq_str, okEq_int, xIn, okIn, inD, xIsN, isNone_n, isNone_t, isNone_l, isNone_i, isNone_s, isMo, mob, pkm, gModI, gDivI, gSubI, gMulI, gPowI, gGt, gLt, gLe, gGe, vNotT, vAndT, vOrT, vAndV, vOrV, opNot, opNotG, vIfE, opTup, opLst, opLstO, Vl.opLen, Vl.opInt, opList, opListO, opTuple, opII, gMax, gMin, vM, vM0, isT, xPop, Vl.opAppend, opExtend, opJoin, vgName, vgTup, vgCons, vgNil, kOpt_some, kOpn_some, kOps_some, Vl.opSum, Vl.opInsert, Vl.opIndex, opDivmod, vSl, vPart, vNoPart, opSl, opSlO, opRev, opCallK, ownD, ownO, objs, renum, uniq, getS, putS, vCall0, vFor, vForW, En.wk, vSeqI, vTupI, vRng1, vRng2, vRngD, vFn, vCallL, vOdd, vWays, vEnum, vZip, chkOf, vLcK, vYes, finD, finO, En.wipe, wipeE, En.trim, trimS, dropNone, clr_n, clr_v, clr_k, clr_o, wth, Vl.ret, takeS, startV,  List.map_cons, List.map_nil, List.length_cons, List.length_nil, List.cons_append, List.nil_append, List.replicate, List.getElem?_cons_succ, List.getElem?_cons_zero, List.getElem?_nil, List.set_cons_succ, List.set_cons_zero, List.set_nil, List.all_nil, List.all_cons, Bool.true_and, Option.map_some, Option.map_none, if_true, if_false, decide_eq_true_eq, Bool.false_eq_true, List.take_succ_cons, List.take_zero, List.take_nil, List.drop_succ_cons, List.drop_zero, List.drop_nil, reduceIte, reduceCtorEq]
      simp only [t_Lcasev4_3, pTake, flatD, List.any_cons, List.any_nil, eqv_str, eqv_int, eqv_ti, eqv_it, eqv_st, eqv_ts, cut1, Bool.or_false, Bool.or_true, Bool.and_self, Bool.and_true, Bool.and_false, Bool.false_or, Bool.true_or, and_self, ofs_inj, ofs_app, ofs_len, String.reduceEq, String.reduceNe, String.reduceAppend, decide_true, decide_false, Bool.not_true, Bool.not_false, sz0, sz1, sz2, sz3, sz4, sz5, sz6, sz7, sz8, sz9, sz10, sz11, sz12, sz13, sz14, sz15, sz16, sz17, sz18, sz19, sz20, sz21, sz22, sz23, sz24, sz25, cpow1018, true_and, and_true, Nat.reduceAdd, Nat.reduceLT, Nat.reduceSub, Int.reduceNe, Int.reduceEq, Int.reduceLT, Int.reduceLE, Int.reduceToNat, ne_eq, not_false_eq_true, List.length_map, Nat.lt_irrefl, dV_nx, dV_rt, at0, at1, at2, at3, ix20, ix21, vSeq, vIfS, vTest, vTruth, truth, v2, v1, vN, vCons, vNil, vStar, vVar, vC, xIx, Vl.opI0, Vl.opI, pk, vSet, vAug, vAsg, xgSub, vRet, vRetN, vNext_mk, vDrop, vBreak, vCont, asD, asDs, opMod, opDiv, opMul2, Vl.opAdd, Vl.opAddO, opSub, opPow, opLt, Vl.opLe, opGt, Vl.opGe, xEq, okEq_str, okEq_int, xIn, okIn, inD, xIsN, isNone_n, isNone_t, isNone_l, isNone_i, isNone_s, isMo, mob, pkm, gModI, gDivI, gSubI, gMulI, gPowI, gGt, gLt, gLe, gGe, vNotT, vAndT, vOrT, vAndV, vOrV, opNot, opNotG, vIfE, opTup, opLst, opLstO, Vl.opLen, Vl.opInt, opList, opListO, opTuple, opII, gMax, gMin, vM, vM0, isT, xPop, Vl.opAppend, opExtend, opJoin, vgName, vgTup, vgCons, vgNil, kOpt_some, kOpn_some, kOps_some, Vl.opSum, Vl.opInsert, Vl.opIndex, opDivmod, vSl, vPart, vNoPart, opSl, opSlO, opRev, opCallK, ownD, ownO, objs, renum, uniq, getS, putS, vCall0, vFor, vForW, En.wk, vSeqI, vTupI, vRng1, vRng2, vRngD, vFn, vCallL, vOdd, vWays, vEnum, vZip, chkOf, vLcK, vYes, finD, finO, En.wipe, wipeE, En.trim, trimS, dropNone, clr_n, clr_v, clr_k, clr_o, wth, Vl.ret, takeS, startV,  List.map_cons, List.map_nil, List.length_cons, List.length_nil, List.cons_append, List.nil_append, List.replicate, List.getElem?_cons_succ, List.getElem?_cons_zero, List.getElem?_nil, List.set_cons_succ, List.set_cons_zero, List.set_nil, List.all_nil, List.all_cons, Bool.true_and, Option.map_some, Option.map_none, if_true, if_false, decide_eq_true_eq, Bool.false_eq_true, List.take_succ_cons, List.take_zero, List.take_nil, List.drop_succ_cons, List.drop_zero, List.drop_nil, reduceIte, reduceCtorEq]
      refine ⟨pn, by omega, by omega, fun b c2 n2 b0 b1 pn2 => ?_⟩
      simp only [t_Lcasev4_2, t_Lcasev4_1, pKind, flatD, List.any_cons, List.any_nil, eqv_str, eqv_int, eqv_ti, eqv_it, eqv_st, eqv_ts, cut1, Bool.or_false, Bool.or_true, Bool.and_self, Bool.and_true, Bool.and_false, Bool.false_or, Bool.true_or, and_self, ofs_inj, ofs_app, ofs_len, String.reduceEq, String.reduceNe, String.reduceAppend, decide_true, decide_false, Bool.not_true, Bool.not_false, sz0, sz1, sz2, sz3, sz4, sz5, sz6, sz7, sz8, sz9, sz10, sz11, sz12, sz13, sz14, sz15, sz16, sz17, sz18, sz19, sz20, sz21, sz22, sz23, sz24, sz25, cpow1018, true_and, and_true, Nat.reduceAdd, Nat.reduceLT, Nat.reduceSub, Int.reduceNe, Int.reduceEq, Int.reduceLT, Int.reduceLE, Int.reduceToNat, ne_eq, not_false_eq_true, List.length_map, Nat.lt_irrefl, dV_nx, dV_rt, at0, at1, at2, at3, ix20, ix21, vSeq, vIfS, vTest, vTruth, truth, v2, v1, vN, vCons, vNil, vStar, vVar, vC, xIx, Vl.opI0, Vl.opI, pk, vSet, vAug, vAsg, xgSub, vRet, vRetN, vNext_mk, vDrop, vBreak, vCont, asD, asDs, opMod, opDiv, opMul2, Vl.opAdd, Vl.opAddO, opSub, opPow, opLt, Vl.opLe, opGt, Vl.opGe, xEq, okEq_str, okEq_int, xIn, okIn, inD, xIsN, isNone_n, isNone_t, isNone_l, isNone_i, isNone_s, isMo, mob, pkm, gModI, gDivI, gSubI, gMulI, gPowI, gGt, gLt, gLe, gGe, vNotT, vAndT, vOrT, vAndV, vOrV, opNot, opNotG, vIfE, opTup, opLst, opLstO, Vl.opLen, Vl.opInt, opList, opListO, opTuple, opII, gMax, gMin, vM, vM0, isT, xPop, Vl.opAppend, opExtend, opJoin, vgName, vgTup, vgCons, vgNil, kOpt_some, kOpn_some, kOps_some, Vl.opSum, Vl.opInsert, Vl.opIndex, opDivmod, vSl, vPart, vNoPart, opSl, opSlO, opRev, opCallK, ownD, ownO, objs, renum, uniq, getS, putS, vCall0, vFor, vForW, En.wk, vSeqI, vTupI, vRng1, vRng2, vRngD, vFn, vCallL, vOdd, vWays, vEnum, vZip, chkOf, vLcK, vYes, finD, finO, En.wipe, wipeE, En.trim, trimS, dropNone, clr_n, clr_v, clr_k, clr_o, wth, Vl.ret, takeS, startV,  List.map_cons, List.map_nil, List.length_cons, List.length_nil, List.cons_append, List.nil_append, List.replicate, List.getElem?_cons_succ, List.getElem?_cons_zero, List.getElem?_nil, List.set_cons_succ, List.set_cons_zero, List.set_nil, List.all_nil, List.all_cons, Bool.true_and, Option.map_some, Option.map_none, if_true, if_false, decide_eq_true_eq, Bool.false_eq_true, List.take_succ_cons, List.take_zero, List.take_nil, List.drop_succ_cons, List.drop_zero, List.drop_nil, reduceIte, reduceCtorEq]
      refine ⟨pn2, by omega, by omega, by omega, m67, rfl, by decide, by decide, fun κ c3 n3 κl κo pn3 => ?_⟩
      refine ⟨bigl (by omega), ?_⟩
      have := k1 (some (.val (.int (1 + b)))) (own + (1 + b)) c3 n3 [(x, κ)] pn3 (by omega) (.inr ⟨κ, rfl, κo, by omega⟩)
      rw [List.map_append] at this
      exact this
    · have g1 : (own < 1 + a) ↔ False := ⟨fun h => g h, fun h => h.elim⟩
      simp only [t_Lcasev4_4, g1, flatD, List.any_cons, List.any_nil, eqv_str, eqv_int, eqv_ti, eqv_it, eqv_st, eqv_ts, cut1, Bool.or_false, Bool.or_true, Bool.and_self, Bool.and_true, Bool.and_false, Bool.false_or, Bool.true_or, and_self, ofs_inj, ofs_app, ofs_len, String.reduceEq, String.reduceNe, String.reduceAppend, decide_true, decide_false, Bool.not_true, Bool.not_false, sz0, sz1, sz2, sz3, sz4, sz5, sz6, sz7, sz8, sz9, sz10, sz11, sz12, sz13, sz14, sz15, sz16, sz17, sz18, sz19, sz20, sz21, sz22, sz23, sz24, sz25, cpow1018, true_and, and_true, Nat.reduceAdd, Nat.reduceLT, Nat.reduceSub, Int.reduceNe, Int.reduceEq, Int.reduceLT, Int.reduceLE, Int.reduceToNat, ne_eq, not_false_eq_true, List.length_map, Nat.lt_irrefl, dV_nx, dV_rt, at0, at1, at2, at3, ix20, ix21, vSeq, vIfS, vTest, vTruth, truth, v2, v1, vN, vCons, vNil, vStar, vVar, vC, xIx, Vl.opI0, Vl.opI, pk, vSet, vAug, vAsg, xgSub, vRet, vRetN, vNext_mk, vDrop, vBreak, vCont, asD, asDs, opMod, opDiv, opMul2, Vl.opAdd, Vl.opAddO, opSub, opPow, opLt, Vl.opLe, opGt, Vl.opGe, xEq, okEq_str, okEq_int, xIn, okIn, inD, xIsN, isNone_n, isNone_t, isNone_l, isNone_i, isNone_s, isMo, mob, pkm, gModI, gDivI, gSubI, gMulI, gPowI, gGt, gLt, gLe, gGe, vNotT, vAndT, vOrT, vAndV, vOrV, opNot, opNotG, vIfE, opTup, opLst, opLstO, Vl.opLen, Vl.opInt, opList, opListO, opTuple, opII, gMax, gMin, vM, vM0, isT, xPop, Vl.opAppend, opExtend, opJoin, vgName, vgTup, vgCons, vgNil, kOpt_some, kOpn_some, kOps_some, Vl.opSum, Vl.opInsert, Vl.opIndex, opDivmod, vSl, vPart, vNoPart, opSl, opSlO, opRev, opCallK, ownD, ownO, objs, renum, uniq, getS, putS, vCall0, vFor, vForW, En.wk, vSeqI, vTupI, vRng1, vRng2, vRngD, vFn, vCallL, vOdd, vWays, vEnum, vZip, chkOf, vLcK, vYes, finD, finO, En.wipe, wipeE, En.trim, trimS, dropNone, clr_n, clr_v, clr_k, clr_o, wth, Vl.ret, takeS, startV,  List.map_cons, List.map_nil, List.length_cons, List.length_nil, List.cons_append, List.nil_append, List.replicate, List.getElem?_cons_succ, List.getElem?_cons_zero, List.getElem?_nil, List.set_cons_succ, List.set_cons_zero, List.set_nil, List.all_nil, List.all_cons, Bool.true_and, Option.map_some, Option.map_none, if_true, if_false, decide_eq_true_eq, Bool.false_eq_true, List.take_succ_cons, List.take_zero, List.take_nil, List.drop_succ_cons, List.drop_zero, List.drop_nil, reduceIte, reduceCtorEq]
      have := k1 none own c n [] pn o2 (.inl ⟨rfl, rfl⟩)
      rw [List.append_nil] at this
      exact this
  generalize e4 : t_Lcasev4_4 pTake (pKind 12) = T4 at body
  simp only [t_Lcasev4_6]
  simp only [e4]
  simp only [flatD, List.any_cons, List.any_nil, eqv_str, eqv_int, eqv_ti, eqv_it, eqv_st, eqv_ts, cut1, Bool.or_false, Bool.or_true, Bool.and_self, Bool.and_true, Bool.and_false, Bool.false_or, Bool.true_or, and_self, ofs_inj, ofs_app, ofs_len, String.reduceEq, String.reduceNe, String.reduceAppend, decide_true, decide_false, Bool.not_true, Bool.not_false, sz0, sz1, sz2, sz3, sz4, sz5, sz6, sz7, sz8, sz9, sz10, sz11, sz12, sz13, sz14, sz15, sz16, sz17, sz18, sz19, sz20, sz21, sz22, sz23, sz24, sz25, cpow1018, true_and, and_true, Nat.reduceAdd, Nat.reduceLT, Nat.reduceSub, Int.reduceNe, Int.reduceEq, Int.reduceLT, Int.reduceLE, Int.reduceToNat, ne_eq, not_false_eq_true, List.length_map, Nat.lt_irrefl, dV_nx, dV_rt, at0, at1, at2, at3, ix20, ix21, vSeq, vIfS, vTest, vTruth, truth, v2, v1, vN, vCons, vNil, vStar, vVar, vC, xIx, Vl.opI0, Vl.opI, pk, vSet, vAug, vAsg, xgSub, vRet, vRetN, vNext_mk, vDrop, vBreak, vCont, asD, asDs, opMod, opDiv, opMul2, Vl.opAdd, Vl.opAddO, opSub, opPow, opLt, Vl.opLe, opGt, Vl.opGe, xEq, okEq_str, okEq_int, xIn, okIn, inD, xIsN, isNone_n, isNone_t, isNone_l, isNone_i, isNone_s, isMo, mob, pkm, gModI, gDivI, gSubI, gMulI, gPowI, gGt, gLt, gLe, gGe, vNotT, vAndT, vOrT, vAndV, vOrV, opNot, opNotG, vIfE, opTup, opLst, opLstO, Vl.opLen, Vl.opInt, opList, opListO, opTuple, opII, gMax, gMin, vM, vM0, isT, xPop, Vl.opAppend, opExtend, opJoin, vgName, vgTup, vgCons, vgNil, kOpt_some, kOpn_some, kOps_some, Vl.opSum, Vl.opInsert, Vl.opIndex, opDivmod, vSl, vPart, vNoPart, opSl, opSlO, opRev, opCallK, ownD, ownO, objs, renum, uniq, getS, putS, vCall0, vFor, vForW, En.wk, vSeqI, vTupI, vRng1, vRng2, vRngD, vFn, vCallL, vOdd, vWays, vEnum, vZip, chkOf, vLcK, vYes, finD, finO, En.wipe, wipeE, En.trim, trimS, dropNone, clr_n, clr_v, clr_k, clr_o, wth, Vl.ret, takeS, startV,  List.map_cons, List.map_nil, List.length_cons, List.length_nil, List.cons_append, List.nil_append, List.replicate, List.getElem?_cons_succ, List.getElem?_cons_zero, List.getElem?_nil, List.set_cons_succ, List.set_cons_zero, List.set_nil, List.all_nil, List.all_cons, Bool.true_and, Option.map_some, Option.map_none, if_true, if_false, decide_eq_true_eq, Bool.false_eq_true, List.take_succ_cons, List.take_zero, List.take_nil, List.drop_succ_cons, List.drop_zero, List.drop_nil, reduceIte, reduceCtorEq]
  refine fl_invW (chk := none) PyData.str ["f", "g", "h", "i"] (fun zs e => ∃ (r : List (Str × Kd)) (own c n : Int), e = ⟨[some (.obj 0), some (.val (.int 12)), some (.val (.int (1 + a))), some (.val (.int own)), some (.val k.enc), some (.obj 1), none, none], [some (.l [.int c, .int n]), some (.l (r.map encB))]⟩ ∧ PoolK n ∧ own = ((k.leaves + sumL r : Nat) : Int) ∧ own ≤ 1 + a ∧ r.length ≤ zs.length ∧ ∀ x ∈ r, (x.2.over m67 ∧ x.2.leaves ≤ 12) ∧ x.1 ∈ (["f", "g", "h", "i"] : List Str)) (fun _ _ _ => True.intro) ?_ ?_ ⟨[], 1 + b, c3, n3, rfl, pn3, by simp only [sumL]; omega, by omega, Nat.le_refl _, fun x h => by cases h⟩
  · rintro zs x ws e Nx hzs ⟨r, own, c, n, rfl, pn, ho, ha, hr, hx⟩ hk
    have zl : zs.length < 4 := by
      have := congrArg List.length hzs
      rw [List.length_append, List.length_cons] at this
      simp only [List.length_cons, List.length_nil] at this
      omega
    simp only [flatD, List.any_cons, List.any_nil, eqv_str, eqv_int, eqv_ti, eqv_it, eqv_st, eqv_ts, cut1, Bool.or_false, Bool.or_true, Bool.and_self, Bool.and_true, Bool.and_false, Bool.false_or, Bool.true_or, and_self, ofs_inj, ofs_app, ofs_len, String.reduceEq, String.reduceNe, String.reduceAppend, decide_true, decide_false, Bool.not_true, Bool.not_false, sz0, sz1, sz2, sz3, sz4, sz5, sz6, sz7, sz8, sz9, sz10, sz11, sz12, sz13, sz14, sz15, sz16, sz17, sz18, sz19, sz20, sz21, sz22, sz23, sz24, sz25, cpow1018, true_and, and_true, Nat.reduceAdd, Nat.reduceLT, Nat.reduceSub, Int.reduceNe, Int.reduceEq, Int.reduceLT, Int.reduceLE, Int.reduceToNat, ne_eq, not_false_eq_true, List.length_map, Nat.lt_irrefl, dV_nx, dV_rt, at0, at1, at2, at3, ix20, ix21, vSeq, vIfS, vTest, vTruth, truth, v2, v1, vN, vCons, vNil, vStar, vVar, vC, xIx, Vl.opI0, Vl.opI, pk, vSet, vAug, vAsg, xgSub, vRet, vRetN, vNext_mk, vDrop, vBreak, vCont, asD, asDs, opMod, opDiv, opMul2, Vl.opAdd, Vl.opAddO, opSub, opPow, opLt, Vl.opLe, opGt, Vl.opGe, xEq, okEq_str, okEq_int, xIn, okIn, inD, xIsN, isNone_n, isNone_t, isNone_l, isNone_i, isNone_s, isMo, mob, pkm, gModI, gDivI, gSubI, gMulI, gPowI, gGt, gLt, gLe, gGe, vNotT, vAndT, vOrT, vAndV, vOrV, opNot, opNotG, vIfE, opTup, opLst, opLstO, Vl.opLen, Vl.opInt, opList, opListO, opTuple, opII, gMax, gMin, vM, vM0, isT, xPop, Vl.opAppend, opExtend, opJoin, vgName, vgTup, vgCons, vgNil, kOpt_some, kOpn_some, kOps_some, Vl.opSum, Vl.opInsert, Vl.opIndex, opDivmod, vSl, vPart, vNoPart, opSl, opSlO, opRev, opCallK, ownD, ownO, objs, renum, uniq, getS, putS, vCall0, vFor, vForW, En.wk, vSeqI, vTupI, vRng1, vRng2, vRngD, vFn, vCallL, vOdd, vWays, vEnum, vZip, chkOf, vLcK, vYes, finD, finO, En.wipe, wipeE, En.trim, trimS, dropNone, clr_n, clr_v, clr_k, clr_o, wth, Vl.ret, takeS, startV,  List.map_cons, List.map_nil, List.length_cons, List.length_nil, List.cons_append, List.nil_append, List.replicate, List.getElem?_cons_succ, List.getElem?_cons_zero, List.getElem?_nil, List.set_cons_succ, List.set_cons_zero, List.set_nil, List.all_nil, List.all_cons, Bool.true_and, Option.map_some, Option.map_none, if_true, if_false, decide_eq_true_eq, Bool.false_eq_true, List.take_succ_cons, List.take_zero, List.take_nil, List.drop_succ_cons, List.drop_zero, List.drop_nil, reduceIte, reduceCtorEq]
    refine body _ x own r c n pn (by omega) ha (by omega) fun s7 own' c' n' e pn' ha' he => ?_
    refine hk _ 2 [6, 7] (Nat.le_refl _) ⟨r ++ e, own', c', n', rfl, pn', ?_, ha', ?_, ?_⟩
    · rw [sumL_app]
      rcases he with ⟨rfl, h⟩ | ⟨κ, rfl, _, h⟩ <;> simp only [sumL] <;> omega
    · rw [List.length_append, List.length_append]
      rcases he with ⟨rfl, _⟩ | ⟨κ, rfl, _, _⟩ <;> simp only [List.length_nil, List.length_singleton] <;> omega
    · intro y hy
      rcases List.mem_append.mp hy with hy | hy
      · exact hx y hy
      · rcases he with ⟨rfl, _⟩ | ⟨κ, rfl, ko, h⟩
        · cases hy
        · rw [List.mem_singleton.mp hy]
          have := k.leaves_pos
          exact ⟨⟨ko, by show κ.leaves ≤ 12; omega⟩, by rw [hzs]; simp⟩
  · rintro e ⟨r, own, c, n, rfl, pn, ho, ha, hr, hx⟩
    have h3 := mS_sumL r
    simp only [t_Lcasev4_5, flatD, List.any_cons, List.any_nil, eqv_str, eqv_int, eqv_ti, eqv_it, eqv_st, eqv_ts, cut1, Bool.or_false, Bool.or_true, Bool.and_self, Bool.and_true, Bool.and_false, Bool.false_or, Bool.true_or, and_self, ofs_inj, ofs_app, ofs_len, String.reduceEq, String.reduceNe, String.reduceAppend, decide_true, decide_false, Bool.not_true, Bool.not_false, sz0, sz1, sz2, sz3, sz4, sz5, sz6, sz7, sz8, sz9, sz10, sz11, sz12, sz13, sz14, sz15, sz16, sz17, sz18, sz19, sz20, sz21, sz22, sz23, sz24, sz25, cpow1018, true_and, and_true, Nat.reduceAdd, Nat.reduceLT, Nat.reduceSub, Int.reduceNe, Int.reduceEq, Int.reduceLT, Int.reduceLE, Int.reduceToNat, ne_eq, not_false_eq_true, List.length_map, Nat.lt_irrefl, dV_nx, dV_rt, at0, at1, at2, at3, ix20, ix21, vSeq, vIfS, vTest, vTruth, truth, v2, v1, vN, vCons, vNil, vStar, vVar, vC, xIx, Vl.opI0, Vl.opI, pk, vSet, vAug, vAsg, xgSub, vRet, vRetN, vNext_mk, vDrop, vBreak, vCont, asD, asDs, opMod, opDiv, opMul2, Vl.opAdd, Vl.opAddO, opSub, opPow, opLt, Vl.opLe, opGt, Vl.opGe, xEq, okEq_str, okEq_int, xIn, okIn, inD, xIsN, isNone_n, isNone_t, isNone_l, isNone_i, isNone_s, isMo, mob, pkm, gModI, gDivI, gSubI, gMulI, gPowI, gGt, gLt, gLe, gGe, vNotT, vAndT, vOrT, vAndV, vOrV, opNot, opNotG, vIfE, opTup, opLst, opLstO, Vl.opLen, Vl.opInt, opList, opListO, opTuple, opII, gMax, gMin, vM, vM0, isT, xPop, Vl.opAppend, opExtend, opJoin, vgName, vgTup, vgCons, vgNil, kOpt_some, kOpn_some, kOps_some, Vl.opSum, Vl.opInsert, Vl.opIndex, opDivmod, vSl, vPart, vNoPart, opSl, opSlO, opRev, opCallK, ownD, ownO, objs, renum, uniq, getS, putS, vCall0, vFor, vForW, En.wk, vSeqI, vTupI, vRng1, vRng2, vRngD, vFn, vCallL, vOdd, vWays, vEnum, vZip, chkOf, vLcK, vYes, finD, finO, En.wipe, wipeE, En.trim, trimS, dropNone, clr_n, clr_v, clr_k, clr_o, wth, Vl.ret, takeS, startV,  List.map_cons, List.map_nil, List.length_cons, List.length_nil, List.cons_append, List.nil_append, List.replicate, List.getElem?_cons_succ, List.getElem?_cons_zero, List.getElem?_nil, List.set_cons_succ, List.set_cons_zero, List.set_nil, List.all_nil, List.all_cons, Bool.true_and, Option.map_some, Option.map_none, if_true, if_false, decide_eq_true_eq, Bool.false_eq_true, List.take_succ_cons, List.take_zero, List.take_nil, List.drop_succ_cons, List.drop_zero, List.drop_nil, reduceIte, reduceCtorEq]
    refine q r k c n ⟨fun x hx' => ?_, by simp only [mS]; omega, hr, fun x hx' => (hx x hx').2⟩ pn
    rcases List.mem_cons.mp hx' with rfl | hx'
    · exact Kd.ok67 ko (by omega) true
    · obtain ⟨y, hy, rfl⟩ := List.mem_map.mp hx'
      exact Kd.ok67 (hx y hy).1.1 (hx y hy).1.2 false
end Kf
namespace Gx
open PySem PySem.Spec PyProof.Rows L2 GenW GxR NdefX
section
variable {M : Model} {A : Around} {E : Value → Shared → Prop} {s : Shared}
/-- the code object of a generator expression, found in the def's table or put there -/
theorem code_any {env : Env} {c P : Addr} {tab : Array Value} {pos : Pos} {qn : Str} {scope : Scope} {Q : Value → Shared → Prop} (hc : env.code = .ref c) (cd : PySem.W.CodeHd s.heap c P)
    (hP : s.heap.get? P = some { cls := .none, data := .fields tab }) (ht : TriplesOk tab.toList)
    (k : ∀ (code : Value) (hp : Heap) (tk : Nat) (tab' : Array Value), Heap.ExtBut P s.heap hp → s.heap.objs.size ≤ hp.objs.size → hp.get? P = some { cls := .none, data := .fields tab' } → (∃ more, tab' = tab ++ more) → TriplesOk tab'.toList →
      Q code { s with heap := hp, toks := tk }) : wpAny M A (genexprCode env pos qn scope) Q E s := by
  cases hf : codeAmong pos tab.toList with
  | some cv => exact wpAny_genexprCode_hit hc (cd.code hP ht) hf (k cv s.heap s.toks tab (Heap.ExtBut.refl _ _) (Nat.le_refl _) hP ⟨#[], by simp⟩ ht)
  | none =>
    refine wpAny_genexprCodeX hc (cd.code hP ht) (cd.tab hP) hf fun c' hp tk ext lo hi isC _ isT _ => ?_
    obtain ⟨_, _, _, _, _, _, _, _, _, _, _, _, _, _, _, _, _, _, _, tri, _⟩ := isC
    exact k _ hp tk _ ext (Nat.le_of_lt (Nat.lt_of_le_of_lt lo hi)) isT.2 ⟨_, rfl⟩ tri
end
/-- the generator's own scope: captured names are the def's -/
structure GSc (X : Cx) (scope : Scope) : Prop where
  kind : scope.kind = .function
  co : scope.isCoroutine = false
  cell : ∀ y ∈ scope.names, y.2 ≠ .cell
  dot : scope.names.lookup (".0" : Str) = some NameKind.local
  free : ∀ y ∈ scope.names, y.2 = .free → X.env.scope.names.lookup y.1 = some .cell ∨ X.env.scope.names.lookup y.1 = some .free
abbrev genv (X : Cx) (scope : Scope) (s : Shared) (code : Value) : Env := genEnv scope (cloFrom X.env.cells scope.names []) s.heap.objs.size code builtinsNs X.env
/-- the context of its element -/
def gcx (X : Cx) (N : List Str) (scope : Scope) (code : Value) (s : Shared) (H : Hp) (A : Around) (ex : List Addr) (pn : List (Addr × Obj)) : Cx where
  prog := X.prog
  w := X.w
  K := X.K
  mg := X.mg
  base := X.base
  A := A
  N := N
  s_0 := s
  H_0 := H
  env := genv X scope s code
  outer := X.stack
  stack := genv X scope s code :: X.stack
  ex := ex
  fn := fun _ => false
  calm := true
  pn := pn
  xe := fun _ _ => False
/-- names of the generator and of the def: what a captured name holds -/
def capt (caps : List (Option Nat)) (σ : L2.St) : L2.St := caps.map fun c => match c with
  | none => none
  | some j => (σ[j]?).getD none
structure Caps (X : Cx) (scope : Scope) (N : List Str) (caps : List (Option Nat)) : Prop where
  len : caps.length = N.length
  at_ : ∀ (i j : Nat) (x : Str), caps[i]? = some (some j) → N[i]? = some x → X.N[j]? = some x ∧ scope.names.lookup x = some .free
section
variable {X : Cx} {pins : List (Addr × Obj)} {σ : L2.St} {H : Hp} {s : Shared}
theorem GSc.has {scope : Scope} (S : GSc X scope) (I : Inv X pins σ H s) : ∀ y ∈ scope.names, y.2 = .free → ∃ c, X.env.cells.lookup y.1 = some c := fun y hy e => I.ok.has _ (S.free y hy e)
theorem Inv.same {s' : Shared} (I : Inv X pins σ H s) (hh : s'.heap = s.heap) (ho : s'.os = s.os) (hb : AllBare s'.gens) : Inv X pins σ H s' := by
  obtain ⟨h1, g1, d1, t1, o1⟩ := s'
  cases hh
  exact ⟨I.ok, ho.trans I.os, hb, I.base, I.loc, I.cell, I.free, I.freeC, I.pin, I.hok, I.len⟩
/-- the generator has been made: its frame stands behind all that stood -/
theorem inv_gen {scope : Scope} {N : List Str} {caps : List (Option Nat)} {code it : Value} {A : Around} {ex : List Addr} {s5 : Shared} {a : Addr} {go : Obj} (S : GSc X scope) (C : Caps X scope N caps) (I : Inv X pins σ H s)
    (hex : ∀ b ∈ ex, FpOk X pins H b) (hexo : ∀ b ∈ ex, b < s.heap.objs.size) (hd : A.handled = none) (hfr : A.frames = some (genv X scope s code :: X.stack))
    (hos : s5.os = s.os) (hb : AllBare s5.gens) (hk : ∀ b o, s.heap.get? b = some o → s5.heap.get? b = some o) (hns : s5.heap.Ns s.heap.objs.size fun y => if y = (".0" : Str) then some it else none)
    (ha : s.heap.objs.size < a) (hgo : s5.heap.get? a = some go) (hgd : ∀ v, go.data ≠ .cell v) :
    Inv (gcx X N scope code s H A ex [(a, go)]) [] (capt caps σ) H s5 := by
  have free := S.has I
  have cm : ∀ {y : Str} {c : Addr}, (cloFrom X.env.cells scope.names []).lookup y = some c → X.env.cells.lookup y = some c := fun e => clo_cm free e
  have nofr : ∀ b ∈ ex, b ∉ frs X.stack := fun b hb hm => by
    obtain ⟨_, h2, h3, _⟩ := hex b hb
    rcases List.mem_cons.mp (I.stkSub b hm) with z | z
    · exact h2 z
    · exact h3 z
  have lt0 : ∀ {b : Addr} {o : Obj}, s.heap.get? b = some o → b ≠ s.heap.objs.size := fun e => Nat.ne_of_lt (Heap.lt_size e)
  have hH : ∀ {b : Addr}, s.heap.objs.size ≤ b → H b = none := fun h => I.hok.fresh h
  refine ⟨⟨I.ok.mod, S.kind, I.ok.glob, rfl, Nat.le_refl _, fun x y c h1 h2 => I.ok.inj x y c (cm h1) (cm h2), fun y hy => ?_, fun _ _ h => (by cases h), fun _ => hd, hfr, .inr ⟨rfl, rfl⟩, fun b hb => ⟨fun e => ?_, fun x c e z => ?_⟩, I.bs, Nat.le_trans I.ok.bsz I.sz, fun b o e hm => ?_, fun b hb => nofr b hb, I.stack, I.stkFree⟩,
    hos, hb, Un.kept hk, ⟨_, hns, fun i x v h1 h2 h3 => ?_⟩, fun y c h => ?_, hH (Nat.le_refl _), fun y c h => I.freeC y c (cm h), fun p hp => ?_, I.hok.kept hk, ?_⟩
  · replace hy : scope.names.lookup y = some .cell ∨ scope.names.lookup y = some .free := hy
    rcases hy with hy | hy
    · exact absurd rfl (S.cell _ (PySem.mem_of_lookup hy))
    · obtain ⟨c, hc⟩ := free _ (PySem.mem_of_lookup hy) rfl
      exact ⟨c, clo_has free (PySem.mem_of_lookup hy) hc⟩
  · exact absurd e (Nat.ne_of_lt (hexo b hb))
  · exact (hex b (by assumption)).2.2.2.2.1 x c (cm e) z
  · obtain ⟨_, _, _, h4, _⟩ := hex b hm
    rcases h4 with z | z
    · exact I.ok.noex b o e z
    · exact absurd (Nat.lt_of_lt_of_le (Heap.lt_size e) (Nat.le_trans I.ok.bsz z)) (Nat.lt_irrefl _)
  · replace h2 : (capt caps σ)[i]? = some (some v) := h2
    unfold capt at h2
    rw [List.getElem?_map] at h2
    obtain ⟨c, hc, e⟩ := Option.map_eq_some_iff.mp h2
    cases c with
    | none => cases e
    | some j =>
      obtain ⟨q1, q2⟩ := C.at_ i j x hc h1
      replace e : (σ[j]?).getD none = some v := e
      have ej : σ[j]? = some (some v) := by
        cases z : σ[j]? with
        | none => rw [z] at e; cases e
        | some w => rw [z] at e; cases e; rfl
      have kx := S.free (x, .free) (PySem.mem_of_lookup q2) rfl
      obtain ⟨m, _, hl⟩ := I.loc
      obtain ⟨u, r, l⟩ := hl j x v q1 ej (by
        rcases kx with z | z
        · exact .inr (.inl z)
        · exact .inr (.inr z))
      refine ⟨u, r, ?_⟩
      rcases l with ⟨l, _⟩ | ⟨_, c, hc, cell⟩
      · replace l : X.env.scope.names.lookup x = some .local := l
        rcases kx with z | z <;> (rw [l] at z; cases z)
      · refine .inr ⟨.inr q2, c, clo_has free (PySem.mem_of_lookup q2) hc, ?_⟩
        obtain ⟨o, ho, hd⟩ := cell
        exact ⟨o, hk _ _ ho, hd⟩
  · obtain ⟨v, o, ho, hd⟩ := I.cell y c (cm h)
    exact ⟨v, o, hk _ _ ho, hd⟩
  · rcases List.mem_append.mp hp with z | z
    · rw [List.mem_singleton.mp z]
      refine ⟨hgo, hH (Nat.le_of_lt ha), Nat.ne_of_gt ha, fun hm => ?_, hgd⟩
      obtain ⟨_, o, ho, _⟩ := I.stack.mem hm
      exact absurd (Nat.lt_trans (Heap.lt_size ho) ha) (Nat.lt_irrefl _)
    · cases z
  · show (capt caps σ).length = N.length
    unfold capt
    rw [List.length_map, C.len]
end
end Gx
namespace Gx
open PySem PySem.Spec PyProof.Rows L2 GenW GxR NdefX
/-- the turns: c is the truth by which it goes on (all: true, any: false) -/
def alR (c : Bool) (J : It) (g : TG) (te : TE) (Rf : Bool → Hp → Prop) : Nat → Nat → L2.St → Hp → Prop
  | 0, _, _, _ => False
  | m + 1, i, σ, H => (J.stop i H ∧ Rf c H) ∨ (J.go i H ∧ ∀ x H1, J.yld i H x H1 → g x σ H1 fun σ2 H2 => te σ2 H2 fun v H3 => ∃ b, v = .bl b ∧ if b = c then alR c J g te Rf m (i + 1) σ2 H3 else Rf b H3)
abbrev gexp (elt tg iter : Expr) (scope : Scope) (pos : Pos) : Expr := .GeneratorExp elt [⟨tg, iter, [], 0⟩] scope pos
abbrev gloop (elt tg iter : Expr) (scope : Scope) (pos : Pos) (it : Addr) (env : Env) : Code := .compLoop (gexp elt tg iter scope pos) 0 (.ref it) .none env
abbrev gstart (elt tg iter : Expr) (scope : Scope) (pos : Pos) (it : Addr) (env : Env) : Code := .compStart (gexp elt tg iter scope pos) 0 (.ref it) .none env
def PR (X : Cx) (c : Bool) (Rf : Bool → Hp → Prop) (s : Shared) : Prop := ∃ σ H, Inv X [] σ H s ∧ Rf c H
abbrev RG (X : Cx) (c : Bool) (Rf : Bool → Hp → Prop) : GenEnd := fun n s0 r s => r = .ok .next ∧ (fun (_ : Nat) (_ : Shared) (s : Shared) => PR X c Rf s) n s0 s
def YG (X : Cx) (c : Bool) (Rf : Bool → Hp → Prop) : Protocol := fun _ _ v s kap => ∃ b σ H, v = .bool b ∧ Inv X [] σ H s ∧ (b ≠ c → Rf b H) ∧ (b = c → ∀ s'', s''.heap = s.heap → s''.os = s.os → AllBare s''.gens → kap (.send .none) s'')
section
variable {X : Cx} {A : Around} {c : Bool} {J : It} {g : TG} {te : TE} {Rf : Bool → Hp → Prop} {elt tg iter : Expr} {scope : Scope} {pos : Pos} {fp : List Addr} {it : Addr} {tn : Nat → Heap → Prop}
theorem seg_loop (T : Turn X.prog X.w X.K tg J fp it tn) (hg : PG X tg g) (he : PE X elt te) (hxe : ∀ v s, ¬ X.xe v s) (hA : A.over (gloop elt tg iter scope pos it X.env) [] = X.A) (hco : X.env.scope.isCoroutine = false) (hcalm : X.calm = true) :
    ∀ (m i : Nat) (σ : L2.St) (H : Hp) (s s0 : Shared), Inv X [] σ H s → tn i s.heap → (∀ b ∈ fp, FpOk X [] H b) → alR c J g te Rf m i σ H →
      Seg (model X.prog X.w) A (RG X c Rf) (YG X c Rf) m s0 (gloop elt tg iter scope pos it X.env) ((model X.prog X.w).den (gloop elt tg iter scope pos it X.env)) [] s := by
  intro m
  induction m with
  | zero => intro i σ H s s0 I st f h; exact h.elim
  | succ m ih =>
    intro i σ H s s0 I st f h
    show Seg _ A _ _ _ s0 _ ((compTurn (gexp elt tg iter scope pos) 0 (.ref it) .none X.env).onRaise (leaving X.env)) [] s
    rw [compTurn_gen, Sem.onRaise_eq_wrap]
    refine seg_bind_wrap (wpAny_standAt ?_)
    have stat : ∀ {H' : Hp}, (∀ b ∈ fp, H' b = none) → ∀ b ∈ fp, FpOk X [] H' b := fun hn b hb => ⟨hn b hb, (f b hb).2⟩
    rcases h with ⟨stop, q⟩ | ⟨go, step⟩
    · refine seg_bind_wrap ?_
      rw [hA]
      refine wpAny_mono (T.done X rfl rfl rfl hcalm i [] s σ H (fun _ _ => False) I f st stop) (fun r s1 ⟨hr, I1⟩ => ?_) fun _ _ e => e.elim
      subst hr
      exact seg_end (.ok .next) ⟨rfl, σ, H, I1, q⟩
    · refine seg_bind_wrap ?_
      rw [hA]
      refine wpAny_mono (T.item X rfl rfl rfl hcalm i [] s σ H (fun _ _ => False) I f st go) (fun r s4 ⟨u, hr, h4⟩ => ?_) fun _ _ e => e.elim
      subst hr
      refine seg_bind_wrap ?_
      rw [hA]
      refine wpAny_mono h4 (fun _ s5 ⟨x, H5, I5, r5, y5, st5, fr5⟩ => ?_) fun _ _ e => e.elim
      have I5' := I5.pinned (stat fr5) (T.obj _ _ st5)
      refine seg_bind_wrap ?_
      rw [hA]
      refine wpAny_mono (hg.run _ s5 σ H5 x u _ I5' r5 (step x H5 y5)) (fun _ s6 ⟨σ6, H6, I6, q6⟩ => ?_) fun v s e => (hxe v s e).elim
      refine seg_bind_wrap ?_
      simp only [List.forIn_nil]
      refine wpAny_pure ?_
      simp only [if_true]
      have hy : ∀ v, yieldOut X.env v = yieldValue v := fun v => by simp only [yieldOut, hco, Bool.false_eq_true, if_false]
      simp only [hy]
      rw [Sem.bind_eq_wrap', Sem.bind_eq_wrap', Sem.wrap_wrap, Sem.wrap_wrap]
      refine seg_wrap ?_
      rw [hA]
      refine wpAny_mono (he.run _ s6 σ6 H6 _ I6 q6) (fun y s7 ⟨v, H7, I7, rv, b, ev, q7⟩ => ?_) fun v s e => (hxe v s e).elim
      subst ev
      have ey : y = .bool b := rv
      subst ey
      refine seg_at (seg_yield rfl rfl rfl ⟨b, σ6, H7, rfl, I7.unpinned, fun ne => by rw [if_neg ne] at q7; exact q7, fun e s'' hh ho hb => ?_⟩)
      rw [if_pos e] at q7
      have k7 : ∀ b ∈ fp, ∀ o, s5.heap.get? b = some o → s7.heap.get? b = some o ∧ H7 b = none := fun b hb o e => by
        have := I7.pin (b, o) (List.mem_append_right _ (List.mem_append_right _ (mem_pinsAt hb e)))
        exact ⟨this.1, this.2.1⟩
      refine seg_again rfl (ih (i + 1) σ6 H7 s'' s'' (Inv.same I7.unpinned hh ho hb) ?_ (fun b hb => stat (fun b hb => ?_) b hb) q7)
      · rw [hh]
        exact T.keep _ _ _ st5 fun b hb o e => (k7 b hb o e).1
      · obtain ⟨o, e, _⟩ := T.obj _ _ st5 b hb
        exact (k7 b hb o e).2
theorem seg_start (T : Turn X.prog X.w X.K tg J fp it tn) (hg : PG X tg g) (he : PE X elt te) (hxe : ∀ v s, ¬ X.xe v s) (hA : A.over (gloop elt tg iter scope pos it X.env) [] = X.A) (hco : X.env.scope.isCoroutine = false) (hcalm : X.calm = true)
    (m : Nat) (σ : L2.St) (H : Hp) (s s0 : Shared) (I : Inv X [] σ H s) (st : tn 0 s.heap) (f : ∀ b ∈ fp, FpOk X [] H b) (h : alR c J g te Rf m 0 σ H) :
      Seg (model X.prog X.w) A (RG X c Rf) (YG X c Rf) m s0 (gstart elt tg iter scope pos it X.env) ((model X.prog X.w).den (gstart elt tg iter scope pos it X.env)) [] s := by
  have loop := seg_loop (iter := iter) (scope := scope) (pos := pos) (c := c) (Rf := Rf) T hg he hxe hA hco hcalm m 0 σ H s s0 I st f h
  show Seg _ A _ _ _ s0 _ ((compStart (gexp elt tg iter scope pos) 0 (.ref it) .none X.env).onRaise (leaving X.env)) [] s
  unfold compStart
  rw [Sem.onRaise_eq_wrap]
  show Seg _ A _ _ _ s0 _ ((ask >>= _).wrap _ _ _ _) [] s
  refine seg_bind_wrap (wpAny_askSetting ?_)
  split
  · exact seg_again rfl loop
  · first
      | exact seg_bind_wrap (wpAny_rule (seg_bind_wrap (wpAny_standAt (seg_bind_wrap (T.self _ 0 s _ _ st (seg_again rfl loop))))))
      | (refine seg_bind_wrap (wpAny_rule ?_); show Seg _ A _ _ _ s0 _ ((standAt iter.pos >>= _).wrap _ _ _ _) [] s; exact seg_bind_wrap (wpAny_standAt (seg_bind_wrap (T.self _ 0 s _ _ st (seg_again rfl loop)))))
end
section
variable {X : Cx} {A : Around} {c : Bool} {Rf : Bool → Hp → Prop} {R : Result → Shared → Prop} {a : Addr} {g : Nat}
/-- the consumer's turn -/
theorem next_turn (hh : A.handled = none) (hd : A.depth < recursionLimit) (hp : ∀ {σ H s}, Inv X [] σ H s → s.heap.IsGen a g) {E : Value → Shared → Prop} {Q : Option Value → Shared → Prop} (m : Nat) (s : Shared) (hg : s.heap.IsGen a g) (hl : s.heap.NoLimit)
    (hs : ∃ gs, s.gens[g]? = some gs ∧ gs.Goes (model X.prog X.w) A.in1 (RG X c Rf) (YG X c Rf) m (.send .none) (s.setGen g .running))
    (fin : ∀ σ H s', Inv X [] σ H s' → Rf c H → Q none s')
    (out : ∀ b σ H s', b ≠ c → Inv X [] σ H s' → Rf b H → Q (some (.bool b)) s')
    (on : ∀ n s', m = n + 1 → s'.heap.IsGen a g → s'.heap.NoLimit → (∃ gs, s'.gens[g]? = some gs ∧ gs.Goes (model X.prog X.w) A.in1 (RG X c Rf) (YG X c Rf) n (.send .none) (s'.setGen g .running)) → Q (some (.bool c)) s') :
    wpAny (model X.prog X.w) A (pyNext (.ref a)) Q E s := by
  obtain ⟨gs, hgs, hgo⟩ := hs
  have hgl : g < s.gens.size := (Array.getElem?_eq_some_iff.mp hgs).1
  refine wpAny_gsz (n := g + 1) hgl (wpAny_pyNext_genexpQ (P := fun _ _ s => PR X c Rf s) (Y := YG X c Rf) hh hl hd hg hgs hgo (fun v s1 gs' hbare hv => ?_) fun s1 hq h' hk => ?_)
  · intro hsz
    obtain ⟨b, σ, H, rfl, I, hne, heq⟩ := hv
    have I' : Inv X [] σ H (s1.setGen g gs') := Inv.same I rfl rfl (allBare_setGen I.bare hbare)
    by_cases e : b = c
    · subst e
      cases m with
      | zero => exact (heq rfl s1 rfl rfl I.bare).elim
      | succ n =>
        have hsz1 : g < s1.gens.size := by
          have q : (s1.setGen g gs').gens.size = s1.gens.size := setGen_size _ _ _
          have hsz' : g + 1 ≤ (s1.setGen g gs').gens.size := hsz
          omega
        refine on n _ rfl (hp I') I'.nolimit ⟨gs', setGen_at hsz1, heq rfl _ rfl rfl ?_⟩
        exact allBare_setGen (s := s1.setGen g gs') (allBare_setGen I.bare hbare) rfl
    · exact out b σ H _ e I' (hne e)
  · intro _
    obtain ⟨σ, H, I, hq⟩ := hq
    refine fin σ H _ (Inv.same (s := { s1 with heap := h', toks := s1.toks }) (I.kept hk) rfl rfl ?_) hq
    exact allBare_setGen I.bare rfl
theorem drain_all (hh : A.handled = none) (hd : A.depth < recursionLimit) (hp : ∀ {σ H s}, Inv X [] σ H s → s.heap.IsGen a g) (hR : ∀ b σ H s', Inv X [] σ H s' → Rf b H → R (.ok (.ret (.bool b))) s') :
    ∀ (m : Nat) (s : Shared), s.heap.IsGen a g → s.heap.NoLimit → (∃ gs, s.gens[g]? = some gs ∧ gs.Goes (model X.prog X.w) A.in1.in1 (RG X true Rf) (YG X true Rf) m (.send .none) (s.setGen g .running)) →
      codeAny (model X.prog X.w) A (.builtin "all.loop" ⟨[.ref a], []⟩) R s := by
  intro m
  induction m with
  | zero =>
    intro s hg hl hs
    refine codeAny_builtin F.entry_all_loop ?_
    rw [Around.under_plainId F.plain_all_loop _]
    show wpAny _ A.in1 (pyNext (.ref a) >>= _) _ _ s
    refine wpAny_bind (next_turn (A := A.in1) hh hd hp 0 s hg hl hs (fun σ H s' I q => ?_) (fun b σ H s' ne I q => ?_) fun n s' e => by cases e)
    · exact wpAny_bind (wpAny_rule (wpAny_pure (hR true σ H s' I q)))
    · have eb : b = false := by cases b <;> simp_all
      subst eb
      refine wpAny_bind (wpAny_holding (wpAny_truthy_bool ?_))
      refine wpAny_bind (wpAny_letGo ?_)
      simp only [Bool.false_eq_true, if_false]
      exact wpAny_bind (wpAny_rule (wpAny_pure (hR false σ H s' I q)))
  | succ m ih =>
    intro s hg hl hs
    refine codeAny_builtin F.entry_all_loop ?_
    rw [Around.under_plainId F.plain_all_loop _]
    show wpAny _ A.in1 (pyNext (.ref a) >>= _) _ _ s
    refine wpAny_bind (next_turn (A := A.in1) hh hd hp (m + 1) s hg hl hs (fun σ H s' I q => ?_) (fun b σ H s' ne I q => ?_) fun n s' e hg' hl' hs' => ?_)
    · exact wpAny_bind (wpAny_rule (wpAny_pure (hR true σ H s' I q)))
    · have eb : b = false := by cases b <;> simp_all
      subst eb
      refine wpAny_bind (wpAny_holding (wpAny_truthy_bool ?_))
      refine wpAny_bind (wpAny_letGo ?_)
      simp only [Bool.false_eq_true, if_false]
      exact wpAny_bind (wpAny_rule (wpAny_pure (hR false σ H s' I q)))
    · cases e
      refine wpAny_bind (wpAny_holding (wpAny_truthy_bool ?_))
      refine wpAny_bind (wpAny_letGo ?_)
      simp only [if_true]
      exact wpAny_pure ⟨plainId_quiet F.plain_all_loop _, ih s' hg' hl' hs'⟩
end
end Gx
namespace Gx
open PySem PySem.Spec PyProof.Rows L2 GenW GxR NdefX
/-- the around of the element -/
abbrev garound (X : Cx) (elt tg iter : Expr) (scope : Scope) (pos : Pos) (it : Addr) (env : Env) : Around := X.A.in1.in1.over (gloop elt tg iter scope pos it env) []
theorem room_gen {X : Cx} {elt tg iter : Expr} {scope : Scope} {pos : Pos} {it : Addr} {env : Env} {k : Nat} (hr : Room (k + 1) X.A) : Room k (garound X elt tg iter scope pos it env) := by
  have h1 : (garound X elt tg iter scope pos it env).depth ≤ X.A.depth + 1 := Nat.le_of_eq rfl
  have h2 : (garound X elt tg iter scope pos it env).units ≤ X.A.units + 2 + 3 := Nat.le_of_eq rfl
  refine ⟨hr.hd, ?_, ?_⟩
  · have := hr.dp
    omega
  · have := hr.un
    omega
theorem frames_gen {X : Cx} {elt tg iter : Expr} {scope : Scope} {pos : Pos} {it : Addr} {env : Env} {l : List Env} (h : X.A.frames = some l) : (garound X elt tg iter scope pos it env).frames = some (env :: l) := by
  have e : (garound X elt tg iter scope pos it env).frames = pushEnvs [env] (pushEnvs [] X.A.frames) := rfl
  rw [e, h]
  simp [pushEnvs]
def tAG (c : Bool) (P : Addr) (caps : List (Option Nat)) (wi : TI) (g : TG) (te : TE) : TE := fun σ H Q => wi σ H fun J H1 => TabG H1 P ∧ ∀ H2, Tabbed P H1 H2 → ∃ m, alR c J g te (fun b H' => Q (.bl b) H') m 0 (capt caps σ) H2
section
variable {X : Cx} {pins : List (Addr × Obj)} {σ : L2.St} {H : Hp} {s : Shared}
/-- a generator is made, and consumed by call -/
theorem gen_run {c : Bool} {cd P : Addr} {elt tg iter : Expr} {gpos : Pos} {scope : Scope} {N : List Str} {caps : List (Option Nat)} {wi : TI} {g : TG} {te : TE} {k : Nat} {Q : VK} {Q2 : Value → Shared → Prop}
    (hr : Room (k + 1) X.A) (TB : TabB X.base X.mg cd P) (hcode : X.env.code = .ref cd) (S : GSc X scope) (C : Caps X scope N caps) (hi : PI X tg iter wi)
    (hg : ∀ code s H A ex pn, Room k A → PG (gcx X N scope code s H A ex pn) tg g) (he : ∀ code s H A ex pn, Room k A → PE (gcx X N scope code s H A ex pn) elt te)
    (hs : ∀ v, genFold iter X.env v = pure v) (I : Inv X pins σ H s) (h : tAG c P caps wi g te σ H Q)
    (hQ : ∀ (Xg : Cx) (a : Addr) (gn : Nat) (m : Nat) (s5 : Shared) (R : Bool → Hp → Prop), Xg.prog = X.prog → Xg.w = X.w → (∀ {σ' H' s'}, Inv Xg [] σ' H' s' → s'.heap.IsGen a gn) → s5.heap.IsGen a gn → s5.heap.NoLimit →
      (∃ gs, s5.gens[gn]? = some gs ∧ gs.Goes (model X.prog X.w) X.A.in1.in1 (RG Xg c R) (YG Xg c R) m (.send .none) (s5.setGen gn .running)) →
      (∀ b σ' H' s', Inv Xg [] σ' H' s' → R b H' → EP X pins σ Q (.bool b) s') → Q2 (.ref a) s5) :
    wpAny (model X.prog X.w) X.A (eval (gexp elt tg iter scope gpos) X.env) Q2 X.xe s := by
  have free := S.has I
  refine wpAny_GeneratorExp_make S.co (closure_ok free) S.cell S.dot S.kind hr.depth (thn (hi.run pins s σ H _ I h) fun xv s1 h1 => thn h1 fun itv s2 h2 => ?_) hs
  obtain ⟨it, fp, tn, J, H2, rfl, I2, T, st2, f2, ⟨tab, hT, tri⟩, hR⟩ := h2
  refine ⟨I2.nolimit, ?_⟩
  have atP := I2.hok P _ hT
  refine code_any hcode (TB.code.keeps fun b u e => I2.bk b u e) atP tri fun code hp0 tk tab' ext grown atP' more tri' => ?_
  have keep : ∀ b u, b ≠ P → s2.heap.get? b = some u → hp0.get? b = some u := fun b u n e => ext b u n e
  obtain ⟨more, rfl⟩ := more
  have I3 : Inv X pins σ (upd H2 P (.tbl (tab ++ more))) { s2 with heap := hp0, gens := s2.gens, drawn := s2.drawn, toks := tk } := inv_tab I2 hT keep atP' I2.bare
  have tabbed : Tabbed P H2 (upd H2 P (.tbl (tab ++ more))) := ⟨⟨tab ++ more, upd_same, tri'⟩, fun b n => upd_ne n⟩
  obtain ⟨m, hm⟩ := hR _ tabbed
  obtain ⟨bm, bo, b1, b2, b3, b4, b5, b6, b7, b8⟩ := TB.bm
  have glob : hp0.Ns mainGlobals X.mg := (I2.mod.glob.keeps I2.bk).extBut ext TB.gP
  refine wpAny_builtinsFor (m := X.mg) (by rw [I.ok.glob]; exact glob) b1 b2 (keep _ _ b4 (I2.bk _ _ b5)) b6 b7 b8 ?_
  intro h' hns hsb
  generalize hH3 : upd H2 P (.tbl (tab ++ more)) = H3 at *
  have nP : ∀ b ∈ fp, b ≠ P := fun b hb e => by
    have := (f2 b hb).1
    rw [e, hT] at this
    cases this
  have f3 : ∀ b ∈ fp, FpOk X pins H3 b := fun b hb => ⟨by rw [← hH3, upd_ne (nP b hb)]; exact (f2 b hb).1, (f2 b hb).2⟩
  have st3 : tn 0 hp0 := T.keep _ _ _ st2 fun b hb o e => keep b o (nP b hb) e
  have fo : ∀ b ∈ fp, b < hp0.objs.size := fun b hb => by
    obtain ⟨o, e, _⟩ := T.obj _ _ st3 b hb
    exact Heap.lt_size e
  have hsz : h'.objs.size = hp0.objs.size + 1 := by rw [hsb.1, Heap.size_push]
  have keep' : ∀ b o, hp0.get? b = some o → h'.get? b = some o := fun b o e => hsb.extBut b o (Nat.ne_of_lt (Heap.lt_size e)) (Heap.get?_push_of_some _ e)
  generalize hgo : ({ cls := .type "generator", data := .fields #[.int s2.gens.size 0, .str "<genexpr>" (tk + 1), .str (X.env.qual ++ "<genexpr>") (tk + 1 + 1)] } : Obj) = go
  have hgen : ∀ h : Heap, h.get? h'.objs.size = some go → h.IsGen h'.objs.size s2.gens.size := fun h e => ⟨go, _, _, e, by rw [← hgo], by rw [← hgo], by rw [← hgo]⟩
  have hgd : ∀ v, go.data ≠ .cell v := fun v q => by rw [← hgo] at q; cases q
  have hpushed : (h'.push go).get? h'.objs.size = some go := Heap.get?_push_size _ (by rw [← hgo] <;> rfl)
  let s3 : Shared := { s2 with heap := hp0, gens := s2.gens, drawn := s2.drawn, toks := tk }
  have I3' : Inv X pins σ H3 s3 := I3
  let env := genv X scope s3 code
  let A := garound X elt tg iter scope gpos it env
  let s5 : Shared := { s2 with gens := s2.gens.push (.fresh (gstart elt tg iter scope gpos it env)), toks := tk + 1 + 1 + 1, heap := h'.push go }
  have I5 : Inv (gcx X N scope code s3 H3 A fp [(h'.objs.size, go)]) [] (capt caps σ) H3 s5 :=
    inv_gen S C I3' f3 fo hr.hd (frames_gen I3'.ok.frames) rfl (AllBare.push I2.bare rfl) (fun b o e => Heap.get?_push_of_some _ (keep' b o e)) (hns.push _) (by show hp0.objs.size < h'.objs.size; omega) hpushed hgd
  have kp5 : ∀ b o, hp0.get? b = some o → s5.heap.get? b = some o := fun b o e => Heap.get?_push_of_some _ (keep' b o e)
  have f5 : ∀ b ∈ fp, FpOk (gcx X N scope code s3 H3 A fp [(h'.objs.size, go)]) [] H3 b := fun b hb => by
    obtain ⟨h1, h2, h3, h4, h5, h6⟩ := f3 b hb
    have lt := fo b hb
    refine ⟨h1, Nat.ne_of_lt lt, fun hm => ?_, .inl hb, fun x c e => h5 x c (clo_cm free e), fun p hp e => ?_⟩
    · rcases List.mem_cons.mp (I3'.stkSub b hm) with z | z
      · exact h2 z
      · exact h3 z
    · have e2 : p = (h'.objs.size, go) := by
        rcases List.mem_append.mp hp with z | z
        · exact List.mem_singleton.mp z
        · cases z
      rw [e2] at e
      have e' : h'.objs.size = b := e
      have q : b < h'.objs.size := by
        rw [hsz]
        exact Nat.lt_succ_of_lt lt
      rw [e'] at q
      exact absurd q (Nat.lt_irrefl _)
  refine hQ (gcx X N scope code s3 H3 A fp [(h'.objs.size, go)]) h'.objs.size s2.gens.size m s5 (fun b H' => Q (.bl b) H') rfl rfl (fun {σ' H' s'} J' => hgen _ (J'.pin (h'.objs.size, go) (List.mem_append_left _ (List.mem_singleton.mpr rfl))).1) (hgen _ hpushed) I5.nolimit ⟨_, Array.getElem?_push_size .., rfl, ?_⟩ ?_
  · exact seg_start (X := gcx X N scope code s3 H3 A fp [(h'.objs.size, go)]) (A := X.A.in1.in1) T (hg _ _ _ _ _ _ (room_gen hr)) (he _ _ _ _ _ _ (room_gen hr)) (fun _ _ e => e) rfl S.co rfl m _ H3 _ _ (Inv.same I5 rfl rfl (allBare_setGen I5.bare rfl)) (T.keep _ _ _ st3 fun b hb o e => kp5 b o e) f5 hm
  · intro b σ' H' s' J' hQ'
    refine ⟨.bl b, H', ?_, rfl, hQ'⟩
    obtain ⟨h9, g9, d9, t9, o9⟩ := s'
    have ho : o9 = s3.os := J'.os
    subst ho
    exact I3'.call (ch := fp) J'.base J'.hok J'.bare fun b hb => ⟨(f3 b hb).2.2.2.1, (f3 b hb).2.1, (f3 b hb).2.2.2.2⟩
theorem boot_allB : bootBuiltins "all" = some (.builtin "all") := by decide +kernel
theorem pe_allG {cd P : Addr} {elt tg iter : Expr} {p pos gpos : Pos} {scope : Scope} {N : List Str} {caps : List (Option Nat)} {wi : TI} {g : TG} {te : TE} {k : Nat}
    (hr : Room (k + 1) X.A) (hgl : Gl X "all") (hm : X.mg "all" = none) (TB : TabB X.base X.mg cd P) (hcode : X.env.code = .ref cd) (S : GSc X scope) (C : Caps X scope N caps) (hi : PI X tg iter wi)
    (hg : ∀ code s H A ex pn, Room k A → PG (gcx X N scope code s H A ex pn) tg g) (he : ∀ code s H A ex pn, Room k A → PE (gcx X N scope code s H A ex pn) elt te)
    (hs : ∀ v, genFold iter X.env v = pure v) (hst : starEach [gexp elt tg iter scope gpos] X.env = (false, eval (gexp elt tg iter scope gpos) X.env) :: starEach [] X.env := by rfl) :
    PE X (.Call (.Name "all" p) [gexp elt tg iter scope gpos] [] pos) (tAG true P caps wi g te) := by
  constructor
  intro pins s σ H Q I h
  refine wpAny_Call_Name_kw (ld_blt I hgl hm boot_allB (PyProof.Rows.callWith_builtin1 ?_ hst (by rfl)))
  rw [hst]
  refine Calls.spliced_cons (gen_run hr TB hcode S C hi hg he hs I h fun Xg a gn m s5 R hp hw hpin hgen lim hgo hR => ?_)
  refine Calls.spliced_nil ?_
  refine call_function_tree F.kind_all F.plain_all F.entry_all (F.args_all1 _) ?_
  unfold Builtin.«all»
  refine wpAny_bind (m := oneArg "all" _) (wpAny_pure ?_)
  refine wpAny_bind (wpAny_pyIter_gen hgen ?_)
  refine wpAny_pure ⟨plainId_quiet F.plain_all_loop _, ?_⟩
  have := drain_all (X := Xg) (A := X.A) (R := fun r s' => match r with | .ok (.ret u) => EP X pins σ Q u s' | _ => False) hr.hd hr.depth hpin (fun b σ' H' s' J q => hR b σ' H' s' J q) m s5 hgen lim (by rw [hp, hw]; exact hgo)
  rw [hp, hw] at this
  refine codeAny_mono this fun r s' q => ?_
  split at q
  · exact q
  · exact q.elim
end
end Gx
namespace Vl
open PySem L2 PySem.Spec PyProof.Rows Gx
theorem Rep.tabbed {K : PySem.W.Frag} {R F : Hp} {A : List Addr} {σ : L2.St} {H H2 : Hp} {e : En} (r : Rep K R F A σ H e) {P : Addr} (tk : TbK K P) (tb : GxR.Tabbed P H H2) : Rep K R F A σ H2 e := by
  obtain ⟨_, hF, hR, hA⟩ := r.tabs.of P tk
  have ne : ∀ {b : Addr} {o : HO}, F b = some o → b ≠ P := fun h e => by
    rw [e, hF] at h
    cases h
  have nR : ∀ {b : Addr} {o : HO}, R b = some o → b ≠ P := fun h e => by
    rw [e, hR] at h
    cases h
  have nA : ∀ {b : Addr}, b ∈ A → b ≠ P := fun h e => hA (e ▸ h)
  refine ⟨fun b o h => ?_, fun b o h => ?_, r.apart, r.len, r.lenA, r.nodup, fun a ha => ?_, r.slot, fun j ob z => ?_, ⟨fun Q hQ => ?_⟩⟩
  · rw [tb.2 b (ne h)]
    exact r.sub _ _ h
  · rw [tb.2 b (nR h)]
    exact r.keep _ _ h
  · rw [tb.2 a (nA ha)]
    exact r.live a ha
  · obtain ⟨a, h1, h2, h3⟩ := r.store j ob z
    exact ⟨a, h1, h2, by rw [tb.2 a (nA (List.mem_of_getElem? h1))]; exact h3⟩
  · obtain ⟨h1, h2, h3, h4⟩ := r.tabs.of Q hQ
    refine ⟨?_, h2, h3, h4⟩
    by_cases q : Q = P
    · rw [q]
      exact tb.1
    · obtain ⟨ps, g1, g2⟩ := h1
      exact ⟨ps, by rw [tb.2 Q q]; exact g1, g2⟩
theorem Rep.wipeS {K : PySem.W.Frag} {R F : Hp} {A : List Addr} {σ : L2.St} {H : Hp} {e : En} (r : Rep K R F A σ H e) (vs : List Nat) : Rep K R F A σ H (e.wipe vs) :=
  r.weak (by rw [wipeE_len]; exact r.len) fun i s h => r.slot i s (wipeE_at h).2
def capE (caps : List (Option Nat)) (sl : List (Option Sl)) : List (Option Sl) := caps.map fun c => match c with
  | none => none
  | some j => (sl[j]?).getD none
theorem Rep.capt {K : PySem.W.Frag} {R F : Hp} {A : List Addr} {σ : L2.St} {H : Hp} {e : En} (r : Rep K R F A σ H e) (caps : List (Option Nat)) : Rep K R F A (Gx.capt caps σ) H ⟨capE caps e.sl, e.st⟩ := by
  refine r.weak (by unfold capE Gx.capt; rw [List.length_map, List.length_map]) fun i s h => ?_
  unfold capE at h
  rw [List.getElem?_map] at h
  obtain ⟨c, hc, e1⟩ := Option.map_eq_some_iff.mp h
  cases c with
  | none => cases e1
  | some j =>
    replace e1 : (e.sl[j]?).getD none = some s := e1
    have ej : e.sl[j]? = some (some s) := by
      cases z : e.sl[j]? with
      | none => rw [z] at e1; cases e1
      | some w => rw [z] at e1; cases e1; rfl
    obtain ⟨v, h1, h2⟩ := r.slot j s ej
    refine ⟨v, ?_, h2⟩
    unfold Gx.capt
    rw [List.getElem?_map, hc]
    show some ((σ[j]?).getD none) = _
    rw [h1]
    rfl
/-- the turns -/
def ag (c : Bool) (g : VTG) (te : VTE) (chk : Option (En → Prop)) (vs : List Nat) : List D → En → (Bool → En → Prop) → Prop
  | [], e, Kp => wth chk e (Kp c e)
  | d :: ds, e, Kp => wth chk e (g (.val d) e fun e1 => te e1 fun s e2 => match pk s e2 with
    | some (.bool b) => if b = c then ag c g te chk vs ds (e2.wipe vs) Kp else Kp b e2
    | _ => False)
def vAG (c : Bool) (w : VTI) (caps : List (Option Nat)) (vs : List Nat) (g : VTG) (te : VTE) : VTE := fun e Kp => w e fun ds chk e1 => ag c g te chk vs ds ⟨capE caps e1.sl, e1.st⟩ fun b e2 => Kp (.val (.bool b)) ⟨e1.sl, e2.st⟩
theorem lift_ag {K : PySem.W.Frag} {P : Addr} (tk : TbK K P) {c : Bool} {w : VTI} {caps : List (Option Nat)} {vs ws : List Nat} {g : VTG} {te : VTE} (σ : L2.St) (H : Hp) (Q : VK) (h : liftE K (vAG c w caps vs g te) σ H Q) :
    tAG c P caps (liftI K w) (liftG K ws g) (liftE K te) σ H Q := by
  obtain ⟨R, F, A, e, Kp, rep, k, fin⟩ := h
  refine ⟨R, F, A, e, _, rep, k, fun ds chk e1 F1 A1 H1 J k1 l1 p1 rep1 it => ⟨(rep1.tabs.of P tk).1, fun H2 tb => ⟨ds.length + 1, ?_⟩⟩⟩
  have rep2 := rep1.tabbed tk tb
  have out : ∀ b e' F' A' σ' H', Kp (.val (.bool b)) ⟨e1.sl, e'.st⟩ → Le F1 F' → A1 <+: A' → Rep K R F' A' σ' H' e' → Q (.bl b) H' := fun b e' F' A' σ' H' kk l p r => by
    have ro : Rep K R F' A' σ H' ⟨e1.sl, e'.st⟩ := ⟨r.sub, r.keep, r.apart, rep1.len, r.lenA, r.nodup, r.live, fun i s z => by
      obtain ⟨v, h1, h2⟩ := rep1.slot i s z
      exact ⟨v, h1, h2.le l p⟩, r.store, r.tabs⟩
    exact fin (.val (.bool b)) _ (.bl b) F' A' H' kk (l1.trans l) (p1.trans p) ro (.bl b)
  have main : ∀ (n i : Nat) (F' : Hp) (A' : List Addr) (σ' : L2.St) (H' : Hp) (e' : En), ds.length - i = n → i ≤ ds.length → Le F1 F' → A1 <+: A' → Rep K R F' A' σ' H' e' → ag c g te chk vs (ds.drop i) e' (fun b e2 => Kp (.val (.bool b)) ⟨e1.sl, e2.st⟩) →
      alR c J (liftG K ws g) (liftE K te) (fun b H' => Q (.bl b) H') (n + 1) i σ' H' := by
    intro n
    induction n with
    | zero =>
      intro i F' A' σ' H' e' hn hi l p r kk
      have e0 : i = ds.length := by omega
      subst e0
      rw [List.drop_length] at kk
      obtain ⟨kc, kk⟩ := wth_ok kk
      exact .inl ⟨it.stop l p r kc, out c e' F' A' σ' H' kk l p r⟩
    | succ n ih =>
      intro i F' A' σ' H' e' hn hi l p r kk
      have hlt : i < ds.length := by omega
      obtain ⟨d, hd⟩ : ∃ d, ds[i]? = some d := ⟨ds[i], by simp [hlt]⟩
      have hdr : ds.drop i = d :: ds.drop (i + 1) := by
        rw [List.drop_eq_getElem_cons hlt]
        rw [List.getElem?_eq_getElem hlt] at hd
        cases hd
        rfl
      rw [hdr] at kk
      obtain ⟨kc, kk⟩ := wth_ok kk
      obtain ⟨g1, g2⟩ := it.go i d hd l p r kc
      refine .inr ⟨g1, fun x H3 y => ?_⟩
      obtain ⟨F3, l3, rep3, a3⟩ := g2 x H3 y
      refine ⟨R, F3, A', e', .val d, _, rep3, a3, kk, fun e2 σ2 F2 A2 H2 k2 l2 p2 o2 rep2 => ⟨R, F2, A2, e2, _, rep2, k2, fun s e3 v F4 A4 H4 k3 l4 p4 rep4 a4 => ?_⟩⟩
      have lf := ((l.trans l3).trans l2).trans l4
      have pf := (p.trans p2).trans p4
      split at k3
      · rename_i b hb
        refine ⟨b, (rep4.pk a4 hb).bool, ?_⟩
        split at k3
        · rename_i q
          rw [if_pos q]
          exact ih (i + 1) F4 A4 σ2 H4 _ (by omega) hlt lf pf (rep4.wipeS vs) k3
        · rename_i q
          rw [if_neg q]
          exact out b e3 F4 A4 σ2 H4 k3 lf pf rep4
      · exact k3.elim
  exact main ds.length 0 F1 A1 _ H2 _ (Nat.sub_zero _) (Nat.zero_le _) (Le.refl _) (pfx_refl _) (rep2.capt caps) k1
section
variable {X : Cx} {cd P : Addr} {elt tg iter : Expr} {p pos gpos : Pos} {scope : Scope} {N : List Str} {caps : List (Option Nat)} {vs ws : List Nat} {w : VTI} {g : VTG} {te : VTE} {k : Nat}
theorem ve_allG (hr : Room k X.A) (h1 : 1 ≤ k) (hgl : Gl X "all") (hm : X.mg "all" = none) (TB : GxR.TabB X.base X.mg cd P) (tk : TbK X.K P) (hcode : X.env.code = .ref cd) (S : GSc X scope) (C : Caps X scope N caps) (hi : VI X tg iter w)
    (hg : ∀ code s H A ex pn, Room (k - 1) A → VG (gcx X N scope code s H A ex pn) tg ws g) (he : ∀ code s H A ex pn, Room (k - 1) A → VE (gcx X N scope code s H A ex pn) elt te)
    (hs : ∀ v, genFold iter X.env v = pure v := by intro _; rfl) (hst : starEach [gexp elt tg iter scope gpos] X.env = (false, eval (gexp elt tg iter scope gpos) X.env) :: starEach [] X.env := by rfl) :
    VE X (.Call (.Name "all" p) [gexp elt tg iter scope gpos] [] pos) (vAG true w caps vs g te) :=
  PE.imp (pe_allG (k := k - 1) (g := liftG X.K ws g) (te := liftE X.K te) (wi := liftI X.K w) (by rw [Nat.sub_add_cancel h1]; exact hr) hgl hm TB hcode S C hi hg he hs hst) (lift_ag tk)
structure GNd (N : List Str) : Prop where
  nd : N.Nodup
def capsB (XN : List Str) (names : List (Str × NameKind)) (N : List Str) (caps : List (Option Nat)) : Bool := caps.length == N.length && (List.range caps.length).all fun i => match caps[i]?, N[i]? with
  | some (some j), some x => decide (XN[j]? = some x) && decide (names.lookup x = some .free)
  | _, _ => true
theorem caps_by {XN : List Str} (e : X.N = XN) (h : capsB XN scope.names N caps = true) : Caps X scope N caps := by
  subst e
  unfold capsB at h
  rw [Bool.and_eq_true] at h
  refine ⟨beq_iff_eq.mp h.1, fun i j x h1 h2 => ?_⟩
  have hi := (List.getElem?_eq_some_iff.mp h1).1
  have := List.all_eq_true.mp h.2 i (List.mem_range.mpr hi)
  rw [h1, h2] at this
  simpa using this
theorem gsc_by {sn : List (Str × NameKind)} (e : X.env.scope.names = sn) (h1 : scope.kind = .function) (h2 : scope.isCoroutine = false) (h3 : scope.names.lookup (".0" : Str) = some NameKind.local) (h4 : (scope.names.all fun y => decide (y.2 ≠ .cell) && (decide (y.2 ≠ .free) || decide (sn.lookup y.1 = some .cell) || decide (sn.lookup y.1 = some .free))) = true) : GSc X scope := by
  subst e
  have h := List.all_eq_true.mp h4
  refine ⟨h1, h2, fun y hy => ?_, h3, fun y hy e => ?_⟩
  · have := h y hy
    rw [Bool.and_eq_true] at this
    exact of_decide_eq_true this.1
  · have := h y hy
    rw [Bool.and_eq_true] at this
    have q := this.2
    rw [e] at q
    simpa using q
end
/-- a def with its code object told -/
structure FunC (K : PySem.W.Frag) (x qual : Str) (st : Stmt) (f : Addr) (fd : FuncData) (c : Addr) : Prop where
  ex : ∃ (oc : Value) (od : Option Addr) (kV doc pm : Value) (an : Option Addr) (ct : Value) (osl : Array (Option Value)),
    fd = PySem.W.fnOf x qual (defArgs st) (defBody st) (defScope st) .none kV doc pm an (.ref c) ct ∧ K.lookup f = some ⟨oc, od, .func fd, osl⟩ ∧ PySem.W.codeIn K (.ref c) qual = true
  kp : PySem.W.keepIn K (.ref f) = true
theorem FunC.fun {K : PySem.W.Frag} {x qual : Str} {st : Stmt} {f : Addr} {fd : FuncData} {c : Addr} (F : FunC K x qual st f fd c) : Fun K x qual st f fd := by
  obtain ⟨oc, od, kV, doc, pm, an, ct, osl, h1, h2, h3⟩ := F.ex
  exact ⟨⟨oc, od, kV, doc, pm, an, _, ct, osl, h1, h2, h3⟩, F.kp⟩
theorem FunC.ok {P : Program} {w : World} {K : PySem.W.Frag} {mg : Str → Option Value} {base : Heap} {x qual : Str} {st : Stmt} {f : Addr} {fd : FuncData} {c : Addr} {N ps : List Str} {k : Nat} {sp : Sp} (F : FunC K x qual st f fd c) (S : FnScope N ps (defScope st))
    (len : ∀ vs H Q E, sp vs H Q E → vs.length = ps.length)
    (body : ∀ (A : Around) (outer : List Env) (s : Shared) (H : Hp) (vs : List V) (Q : VK) (E : XK), Room k (A.deeper (envOfC qual (defScope st) s.heap.objs.size f (.ref c))) → sp vs H Q E →
      ∃ t, PSs (cxOf CX0 P w K mg base N qual (defScope st) f (.ref c) A outer s H E).nox (defBody st) t ∧ t { nx := fun _ H' => Q .non H', rt := Q } (start N vs) H) : FnOk P w K mg base CX0 (k + 1) f fd ps sp := by
  obtain ⟨oc, od, kV, doc, pm, an, ct, osl, rfl, lk, hcd⟩ := F.ex
  refine fn_of lk hcd S len fun A outer s H vs Q E hr hsp => ?_
  obtain ⟨t, h, q⟩ := body A outer s H vs Q E hr hsp
  exact ⟨t, h.nox, q⟩
structure DfC (K : PySem.W.Frag) (mg : Str → Option Value) (base : Heap) (x : Str) (st : Stmt) (ps : List Str) (c P : Addr) : Prop where
  ex : ∃ f fd, FunC K x x st f fd c ∧ Binds K fd ps [] ∧ mg x = some (.ref f)
  TB : GxR.TabB base mg c P
  tk : TbK K P
theorem okFC {P : Program} {w : World} {K : PySem.W.Frag} {mg : Str → Option Value} {base : Heap} {x : Str} {st : Stmt} {N ps : List Str} {k : Nat} {p : VSp} {t : VTS} {c Pt : Addr} (Fd : DfC K mg base x st ps c Pt) (S : FnScope N ps (defScope st)) (len : ∀ ss st Kp, p ss st Kp → ss.length = ps.length)
    (hb : ∀ {f : Addr} {A : Around} {outer : List Env} {s : Shared} {H : Hp} {E : XK}, Room k (A.deeper (envOfC x (defScope st) s.heap.objs.size f (.ref c))) → VSs (cxOf CX0 P w K mg base N x (defScope st) f (.ref c) A outer s H E).nox (defBody st) t)
    (rd : ∀ ss cs Kp, p ss cs Kp → t (dV cs.length Kp) ⟨startV N.length ss, cs.map some⟩) : VFn P w K mg base (k + 1) x ps p := by
  obtain ⟨f, fd, F, b, g⟩ := Fd.ex
  refine ⟨f, fd, ?_, F.kp, b, g⟩
  have lenV : ∀ vs H Q E, spV K p vs H Q E → vs.length = ps.length := fun vs H Q E h => by
    obtain ⟨R, F, A, ss, st, Kp, rep, hp, _⟩ := h
    have := rep.len
    simp at this
    rw [← this]
    exact len _ _ _ hp
  refine F.ok S lenV fun A outer s H vs Q E hr h => ?_
  have ht := hb (f := f) (A := A) (outer := outer) (s := s) (H := H) (E := E) hr
  obtain ⟨R, F0, A0, ss, cs, Kp, rep, hp, fin⟩ := h
  have hl := rep.len
  simp at hl
  refine ⟨_, ht, R, F0, A0, ⟨startV N.length ss, cs.map some⟩, dV cs.length Kp, ?_, rd ss cs Kp hp, ?_⟩
  · refine rep.weak ?_ fun i u hu => ?_
    · show (ss.map some ++ List.replicate (N.length - ss.length) none).length = (vs.map some ++ List.replicate (N.length - vs.length) none).length
      simp only [List.length_append, List.length_map, List.length_replicate, hl]
    · replace hu : (ss.map some ++ List.replicate (N.length - ss.length) none)[i]? = some (some u) := hu
      rcases Nat.lt_or_ge i (ss.map some).length with hi | hi
      · rw [List.getElem?_append_left hi] at hu
        obtain ⟨v, h1, h2⟩ := rep.slot i u hu
        refine ⟨v, ?_, h2⟩
        show (vs.map some ++ List.replicate (N.length - vs.length) none)[i]? = _
        rw [List.getElem?_append_left (by rw [List.length_map] at hi ⊢; omega)]
        exact h1
      · rw [List.getElem?_append_right hi] at hu
        have := List.mem_of_getElem? hu
        have := (List.mem_replicate.mp this).2
        cases this
  · have hn : A0.length = cs.length := by
      have := rep.lenA
      simp at this
      exact this.symm
    exact ⟨fun e' σ' F' A' H' k l p r => ret_ok r (s := .val .none) (v := .non) .non hn l p k fin, fun _ _ _ _ _ k => k.elim, fun _ _ _ _ _ k => k.elim, fun s e' v σ' F' A' H' k l p r a => ret_ok r a hn l p k fin, FinX.no⟩
end Vl
namespace Vl
open PySem L2 PySem.Spec PyProof.Rows
def keyD : L2.Key → D
  | .inl i => .int i
  | .inr x => .str x
/-- the dict that the i-th name holds is locked in t -/
def vLockE (i : Nat) (t : VTE) : VTE := fun e Kp => match e.sl[i]? with
  | some (some (.obj j)) => (match e.st[j]? with
    | some (some (.m kvs)) => ∀ od vs, t ⟨e.sl, e.st.set j (some (.lk od vs kvs))⟩ fun s e' => e'.st[j]? = some (some (.lk od vs kvs)) ∧ Kp s ⟨e'.sl, e'.st.set j (some (.m kvs))⟩
    | _ => False)
  | _ => False
def vLockS (i : Nat) (t : VTS) : VTS := fun D e => match e.sl[i]? with
  | some (some (.obj j)) => (match e.st[j]? with
    | some (some (.m kvs)) => ∀ od vs, t ⟨fun e' => e'.st[j]? = some (some (.lk od vs kvs)) ∧ D.nx ⟨e'.sl, e'.st.set j (some (.m kvs))⟩, fun s e' => e'.st[j]? = some (some (.lk od vs kvs)) ∧ D.rt s ⟨e'.sl, e'.st.set j (some (.m kvs))⟩,
        fun e' => e'.st[j]? = some (some (.lk od vs kvs)) ∧ D.bk ⟨e'.sl, e'.st.set j (some (.m kvs))⟩, fun e' => e'.st[j]? = some (some (.lk od vs kvs)) ∧ D.ct ⟨e'.sl, e'.st.set j (some (.m kvs))⟩, fun _ _ => False⟩ ⟨e.sl, e.st.set j (some (.lk od vs kvs))⟩
    | _ => False)
  | _ => False
def vKeysL (t : VTE) : VTI := fun e Kp => t e fun s e1 => match s with
  | .obj j => (match e1.st[j]? with
    | some (some (.lk od vs kvs)) => Kp (kvs.map fun kv => keyD kv.1) (some fun e => e.st[j]? = some (some (.lk od vs kvs))) e1
    | _ => False)
  | _ => False
section
variable {X : Cx} {tg a b : Expr} {ta tb : VTE} {pos : Pos}
theorem keyD_at {K : PySem.W.Frag} {F : Hp} (k : L2.Key) : At K F (keyD k) (kV k) := by
  cases k with
  | inl i => exact .int i
  | inr x => exact .str x
theorem KvAt.keys' {K : PySem.W.Frag} {F : Hp} {kvs : List (L2.Key × D)} {vs : List (L2.Key × V)} (h : KvAt K F kvs vs) : vs.length = kvs.length ∧ ∀ (i : Nat) (k : L2.Key) (v : V), vs[i]? = some (k, v) → ∃ d, kvs[i]? = some (k, d) := by
  induction h with
  | nil => exact ⟨rfl, fun i k v h => by simp at h⟩
  | cons h _ ih =>
    refine ⟨by simp [ih.1], fun i k v h => ?_⟩
    cases i with
    | zero =>
      cases h
      exact ⟨_, rfl⟩
    | succ i => exact ih.2 i k v (by simpa using h)
theorem vi_keysL (ha : VE X a ta) : VI X tg a (vKeysL ta) := PI.imp (pi_keys ha) fun σ H Q h => by
  obtain ⟨R, F, A, e, Kp, rep, k, fin⟩ := h
  refine ⟨R, F, A, e, _, rep, k, fun s e1 v F1 A1 H1 k1 l1 p1 rep1 a1 => ?_⟩
  split at k1
  · rename_i j
    split at k1
    · rename_i od vs kvs hs
      obtain ⟨d, ed, rfl⟩ := a1
      obtain ⟨d', e2, hF, e3, kv⟩ := rep1.store j _ hs
      rw [ed] at e2
      cases e2
      obtain ⟨kl, kk⟩ := kv.keys'
      have fact : ∀ {R' F' A' σ' H' e'}, A1 <+: A' → Rep X.K R' F' A' σ' H' e' → e'.st[j]? = some (some (.lk od vs kvs)) → H' d = some (.frz od (.dK vs)) := fun {R' F' A' σ' H' e'} p r c => by
        obtain ⟨a', q1, q2, q3, q4⟩ := r.store j _ c
        rw [pfx_get p ed] at q1
        cases q1
        exact q3
      refine ⟨d, od, rfl, .inl ⟨vs, e3, fin _ _ _ _ _ _ _ k1 l1 p1 rep1 ⟨fun {R' F' A' σ' H' e'} i dd hi l p rep' c => ?_, fun {R' F' A' σ' H' e'} l p rep' c => ?_⟩⟩⟩
      · have q3 := fact p rep' c
        have hlt : i < kvs.length := by
          have := (List.getElem?_eq_some_iff.mp hi).1
          simpa using this
        refine ⟨⟨q3, by omega⟩, fun x H3 y => ?_⟩
        obtain ⟨rfl, k, v, hv, rfl⟩ := y
        obtain ⟨d2, hd2⟩ := kk i k v hv
        rw [List.getElem?_map, hd2] at hi
        cases hi
        exact ⟨F', Le.refl _, rep', keyD_at k⟩
      · refine ⟨fact p rep' c, ?_⟩
        rw [List.length_map, kl]
        exact Nat.le_refl _
    · exact k1.elim
  · exact k1.elim
theorem ve_lock {i : Nat} (ha : VE X a ta) : VE X a (vLockE i ta) := PE.imp (pe_lock ha) fun σ H Q h => by
  obtain ⟨R, F, A, e, Kp, rep, k, fin⟩ := h
  unfold vLockE at k
  split at k
  · rename_i j hi
    split at k
    · rename_i kvs hs
      obtain ⟨v, h1, d, hd, rfl⟩ := rep.slot i _ hi
      obtain ⟨d', e2, hF, vs, e3, kv⟩ := rep.store j _ hs
      rw [hd] at e2
      cases e2
      refine ⟨d, .dK vs, e3, trivial, fun od => ?_⟩
      have rep2 := rep.writeO hd hs (o := .frz od (.dK vs)) (ob' := .lk od vs kvs) ⟨rfl, kv⟩
      refine ⟨R, F, A, _, _, rep2, k od vs, fun s e' v F' A' H' k' l p r a' => ?_⟩
      obtain ⟨q1, q2⟩ := k'
      obtain ⟨d2, w1, w2, w3, w4⟩ := r.store j _ q1
      rw [pfx_get p hd] at w1
      cases w1
      refine ⟨w3, ?_⟩
      have r3 := r.writeO (pfx_get p hd) q1 (o := .dK vs) (ob' := .m kvs) ⟨vs, rfl, w4⟩
      exact fin s _ v F' A' _ q2 l p r3 a'
    · exact k.elim
  · exact k.elim
theorem vs_lock {i : Nat} {st : Stmt} {t : VTS} (hs : VS X st t) : VS X st (vLockS i t) := PS.imp (ps_lock hs) fun D σ H h => by
  obtain ⟨R, F, A, e, DV, rep, k, fin⟩ := h
  unfold vLockS at k
  split at k
  · rename_i j hi
    split at k
    · rename_i kvs hs
      obtain ⟨v, h1, d, hd, rfl⟩ := rep.slot i _ hi
      obtain ⟨d', e2, hF, vs, e3, kv⟩ := rep.store j _ hs
      rw [hd] at e2
      cases e2
      refine ⟨d, .dK vs, e3, trivial, fun od => ?_⟩
      have rep2 := rep.writeO hd hs (o := .frz od (.dK vs)) (ob' := .lk od vs kvs) ⟨rfl, kv⟩
      have back : ∀ {e' σ' F' A' H'}, Le F F' → A <+: A' → Rep X.K R F' A' σ' H' e' → e'.st[j]? = some (some (.lk od vs kvs)) → H' d = some (.frz od (.dK vs)) ∧ Rep X.K R F' A' σ' (upd H' d (.dK vs)) ⟨e'.sl, e'.st.set j (some (.m kvs))⟩ := fun {e' σ' F' A' H'} l p r q1 => by
        obtain ⟨d2, w1, w2, w3, w4⟩ := r.store j _ q1
        rw [pfx_get p hd] at w1
        cases w1
        exact ⟨w3, r.writeO (pfx_get p hd) q1 (o := .dK vs) (ob' := .m kvs) ⟨vs, rfl, w4⟩⟩
      refine ⟨R, F, A, _, _, rep2, k od vs, fun e' σ' F' A' H' k' l p r => ?_, fun e' σ' F' A' H' k' l p r => ?_, fun e' σ' F' A' H' k' l p r => ?_, fun s e' v σ' F' A' H' k' l p r a' => ?_, FinX.no⟩
      · obtain ⟨w1, w2⟩ := back l p r k'.1
        exact ⟨w1, fin.nx _ _ _ _ _ k'.2 l p w2⟩
      · obtain ⟨w1, w2⟩ := back l p r k'.1
        exact ⟨w1, fin.bk _ _ _ _ _ k'.2 l p w2⟩
      · obtain ⟨w1, w2⟩ := back l p r k'.1
        exact ⟨w1, fin.ct _ _ _ _ _ k'.2 l p w2⟩
      · obtain ⟨w1, w2⟩ := back l p r k'.1
        exact ⟨w1, fin.rt _ _ _ _ _ _ _ k'.2 l p w2 a'⟩
    · exact k.elim
  · exact k.elim
end
def tListVals (te : TE) : TE := fun σ H Q => te σ H fun x H1 => ∃ d kvs, x = .ref d ∧ H1 d = some (.dK kvs) ∧ ∀ q, H1 q = none → Q (.ref q) (upd H1 q (.lst (kvs.map (·.2))))
section
variable {X : Cx} {e : Expr} {te : TE} {td : VTE} {p apos cpos pos : Pos}
theorem pe_listVals (hc : X.calm = true) (he : PE X e te) (hg : Gl X "list") (hm : X.mg "list" = none) (hv : bootBuiltins "list" = some (.type "list")) (hbase : attributeBase e "values" X.env (eval e X.env) = eval e X.env := by rfl) (hline : (apos.endLine == cpos.line) = true := by rfl)
    (hs : starEach [.Call (.Attribute e "values" apos) [] [] cpos] X.env = (false, eval (.Call (.Attribute e "values" apos) [] [] cpos) X.env) :: starEach [] X.env := by rfl) :
    PE X (.Call (.Name "list" p) [.Call (.Attribute e "values" apos) [] [] cpos] [] pos) (tListVals te) := by
  refine ⟨fun pins s σ H Q I hq => ?_⟩
  refine wpAny_Call_Name_kw (ld_blt I hg hm hv ?_)
  refine PyProof.Rows.callWith_type1 ?_ hs rfl
  rw [hs]
  show wpAny _ _ (spliced ((false, eval (.Call (.Attribute e "values" apos) [] [] cpos) X.env) :: backTo pos (starEach [] X.env))) _ _ s
  refine Calls.spliced_cons ?_
  refine wpAny_Call_method (T := "dict") (id := "dict.values") hbase rfl hline F.plainAttrs_dict F.slot_dict_values F.type_dict_values (thn (he.run pins s σ H _ I hq) fun u s1 ⟨x, H1, I1, rx, d, kvs, ex, hd, q⟩ => ?_)
  subst ex
  obtain rfl : u = Value.ref d := rx
  obtain ⟨hz, hs0, vs, kv, hdo⟩ := I1.hok d _ hd
  obtain ⟨ep, hat⟩ := hdo.dictAt
  have lk : kvs.length = vs.length := Paired.length kv
  have I2 : Inv X pins σ H1 { s1 with heap := s1.heap.push { cls := .type "dict_values", data := .fields #[.ref d] } } := I1.kept (t' := s1.toks) fun b ob q => Heap.get?_push_of_some _ q
  refine ⟨hdo.typeIs, hdo.mapOf.noDict, ?_⟩
  show wpAny _ _ (callWith cpos (.builtin "dict.values") [.ref d] [] []) _ X.xe s1
  refine method_meetsIn F.slot_dict_values F.entry_dict_values rfl (PySem.evalArgs_none ⟨rfl, hdo.typeIs, F.args_dict_values_1 _, _, meets_dict_values (mixKind X.prog X.w) d hs0, ⟨vs, hdo⟩, ?_⟩)
  refine Calls.spliced_nil ?_
  refine PySem.W.kdl_call (PySem.W.kdl_values (knd := mixKind X.prog X.w) (r := s1.heap.objs.size) (kvs := vs) (ep := ep)) (I1.ok.hd hc) ⟨⟨_, Heap.get?_push_size _ rfl, rfl, rfl⟩, hat.push _⟩ (by rw [← lk]; exact hz) fun h' tk acc' c' hkeep hS hacc => ?_
  have I3 : Inv X pins σ (upd H1 (s1.heap.objs.size + 1) (.lst (kvs.map (·.2)))) { s1 with heap := h', toks := tk } := by
    have sz : (s1.heap.push { cls := .type "dict_values", data := .fields #[.ref d] }).objs.size = s1.heap.objs.size + 1 := Heap.size_push _ _
    refine I2.laid (t' := tk) hkeep (by show _ ≤ _; rw [sz]; exact Nat.le_refl _) (show ObjOk X.prog X.w _ _ _ (.lst (kvs.map (·.2))) from ⟨by rw [List.length_map]; exact hz, acc'.toList, c', ?_, ?_⟩)
    · have el : acc'.toList.length = acc'.size := by simp
      refine vals_of_at (by rw [List.length_map, el, hacc.1, lk]) fun j x w h1 h2 => ?_
      obtain ⟨k, hk⟩ := hacc.2 j w (by rw [← Array.getElem?_toList]; exact h2)
      obtain ⟨y, h3, h4⟩ := KV.at' kv hk
      rw [List.getElem?_map, h3] at h1
      cases h1
      exact h4
    · rw [Array.toArray_toList, ← sz]
      exact hS
  have sz : (s1.heap.push { cls := .type "dict_values", data := .fields #[.ref d] }).objs.size = s1.heap.objs.size + 1 := Heap.size_push _ _
  refine ⟨.ref (s1.heap.objs.size + 1), _, I3, ?_, q _ (I1.hok.fresh (Nat.le_succ _))⟩
  show Value.ref _ = Value.ref _
  rw [sz]
def vListV (td : VTE) : VTE := fun e Kp => td e fun s e1 => match s with
  | .obj j => (match e1.st[j]? with
    | some (some (.m kvs)) => Kp (.val (.list (kvs.map (·.2)))) e1
    | _ => False)
  | _ => False
theorem KvAt.vals {K : PySem.W.Frag} {F : Hp} {kvs : List (L2.Key × D)} {vs : List (L2.Key × V)} (h : KvAt K F kvs vs) : AtL K F (kvs.map (·.2)) (vs.map (·.2)) := by
  induction h with
  | nil => exact .nil
  | cons h _ ih => exact .cons h ih
theorem ve_listV (hc : X.calm = true) (hg : Gl X "list") (hm : X.mg "list" = none) (he : VE X e td) (hbase : attributeBase e "values" X.env (eval e X.env) = eval e X.env := by rfl) (hline : (apos.endLine == cpos.line) = true := by rfl)
    (hs : starEach [.Call (.Attribute e "values" apos) [] [] cpos] X.env = (false, eval (.Call (.Attribute e "values" apos) [] [] cpos) X.env) :: starEach [] X.env := by rfl) :
    VE X (.Call (.Name "list" p) [.Call (.Attribute e "values" apos) [] [] cpos] [] pos) (vListV td) := PE.imp (pe_listVals hc he hg hm (by decide +kernel) hbase hline hs) fun σ H Q h => by
  obtain ⟨R, F, A, e, Kp, rep, k, fin⟩ := h
  refine ⟨R, F, A, e, _, rep, k, fun s e1 x F1 A1 H1 k1 l1 p1 rep1 a1 => ?_⟩
  split at k1
  · rename_i j
    split at k1
    · rename_i kvs hs
      obtain ⟨a, ea, rfl⟩ := a1
      obtain ⟨a', e2, hF, vs, e3, kv⟩ := rep1.store j _ hs
      rw [ea] at e2
      cases e2
      exact ⟨a, vs, rfl, e3, fun q hq => (fin.tr l1 p1).newL rep1 hq k1 kv.vals⟩
    · exact k1.elim
  · exact k1.elim
theorem max_tupI {P : Program} {w : World} {A : Around} {E : Value → Shared → Prop} {s : Shared} {l : Addr} {its : List Value} {ns : List Int} {Q : Value → Shared → Prop} (hh : A.handled = none) (hl : s.heap.IsTuple l its.toArray) (hi : IntsAre its ns) (hne : 0 < ns.length)
    (h : ∀ h' tk M t', (∀ b o, s.heap.get? b = some o → h'.get? b = some o) → M ∈ ns → (∀ a, a ∈ ns → a ≤ M) → Q (.int M t') { s with heap := h', toks := tk }) : wpAny (model P w) A (call (.builtin "max") [.ref l]) Q E s := by
  obtain ⟨xs, e⟩ := hi.allInts.items
  have hn : numsOf (intItems xs).toList = ns := by rw [← e]; exact hi.numsOf
  rw [nums_intItems] at hn
  subst hn
  rw [e] at hl
  have hsz : 0 < xs.size := by simpa using hne
  have hlt : l < s.heap.objs.size := by
    obtain ⟨o, ho, _⟩ := hl
    exact Heap.lt_size ho
  refine call_max_walk (wpAny_pyIter_tuple hl ?_)
  have hs1 : (s.heap.push { cls := .type "tuple_iterator", data := .fields #[.ref l, .int 0 0] }).objs.size = s.heap.objs.size + 1 := Heap.size_push ..
  refine ⟨_, [_, l], [_], _, _, _, _, rfl, Walks.tuple (A := A.in1) hh _ l (Nat.ne_of_lt hlt) (intItems xs), ⟨⟨_, Heap.get?_push_size _ rfl, rfl, rfl⟩, hl.push _⟩, fun c hc => ?_, by simpa [intItems] using hne, CmpOf.ints_gt (numAt xs) (fun _ _ => intItems_at), fun v h' tk hP hk => ?_⟩
  · show c < (s.heap.push _).objs.size
    rw [hs1]
    rcases List.mem_cons.mp hc with rfl | hc
    · exact Nat.lt_succ_self _
    · rw [List.mem_singleton.mp hc]
      exact Nat.lt_succ_of_lt hlt
  · have hold : ∀ c o, s.heap.get? c = some o → h'.get? c = some o := fun c o e => by
      refine hk c o (fun hm => ?_) (Heap.get?_push_of_some _ e)
      have := Heap.lt_size e
      rw [List.mem_singleton.mp hm] at this
      exact Nat.lt_irrefl _ this
    obtain ⟨t, rfl⟩ := intItems_at hP
    have en : (intItems xs).size = xs.size := by simp [intItems]
    rw [en]
    obtain ⟨h1, h2⟩ := argBest_gt (numAt xs) (xs.size - 1)
    refine h h' tk _ t hold ?_ fun a ha => ?_
    · rw [numAt_eq]; exact PySem.getD_mem (by rw [List.length_map, Array.length_toList]; omega)
    · obtain ⟨j, hj, rfl⟩ := mem_getD ha
      rw [List.length_map, Array.length_toList] at hj
      rw [← numAt_eq]; exact h2 j (by omega)
theorem cr_maxT (hc : X.calm = true) : CallR X (.builtin "max") (fun vs H Q => ∃ (a : Addr) (ns : List Int), vs = [V.ref a] ∧ SqT X.K H a (ns.map V.int) ∧ 0 < ns.length ∧ ∀ m, m ∈ ns → (∀ y, y ∈ ns → y ≤ m) → Q (.int m) H) := by
  intro pins s σ H vs us Q I r h
  obtain ⟨a, ns, rfl, hs, hne, q⟩ := h
  obtain ⟨its, rv, hl, _⟩ := I.tuple hs
  rw [Vals.ref1 r]
  exact max_tupI (I.ok.hd hc) hl rv.ints hne fun h' tk m t' hk h1 h2 => ⟨.int _, H, I.kept hk, ⟨_, rfl⟩, q m h1 h2⟩
def opMaxT (ss : List Sl) (e : En) (Kp : KE) : Prop := match ss with
  | [s] => (match pk s e with
    | some (.tuple ds) => kOps (intsD ds) fun ns => 0 < ns.length ∧ ∀ m, m ∈ ns → (∀ y, y ∈ ns → y ≤ m) → Kp (.val (.int m)) e
    | _ => False)
  | _ => False
theorem ve_maxT {a : Expr} {p : Pos} {t : VTA} (hc : X.calm = true) (hg : Gl X "max") (hm : X.mg "max" = none) (ha : VA X [a] t) (he : starEach [a] X.env = (false, eval a X.env) :: starEach [] X.env := by rfl) : VE X (.Call (.Name "max" p) [a] [] pos) (vN opMaxT t) := ve_blt (fun {R F A σ H e xs ss Kp Q} rep a1 ho fin => by
  unfold opMaxT at ho
  split at ho
  · rename_i s
    obtain ⟨x, rfl, a2⟩ := a1.one
    split at ho
    · rename_i ds h1
      obtain ⟨ns, h2, h3, h4⟩ := kOps_ex ho
      obtain ⟨q, ys, rfl, q1, q2⟩ := (rep.pk a2 h1).tup
      rw [intsD_at h2 q2] at q1
      exact ⟨q, ns, rfl, sqT_le rep.sub q1, h3, fun m m1 m2 => fin.val rep (h4 m m1 m2) (.int _)⟩
    · exact ho.elim
  · exact ho.elim) (cr_maxT hc) hg hm (by decide +kernel) ha (by decide) (by decide) he
end
end Vl
namespace Vl
open PySem L2 PySem.Spec PyProof.Rows
/-- the top's record of a def: its code object and its empty table -/
def Told (q : Program) (mg : Str → Option Value) (h : Heap) : Prop :=
  ∀ d ∈ PyProof.Rows.recsOf q, ∃ (f : Addr) (o : Obj) (fd : FuncData) (c P : Addr), mg d.name = some (.ref f) ∧ h.get? f = some o ∧ o.data = .func fd ∧ fd.code = .ref c ∧ h.IsCode c P #[] ∧ h.TableAt c P #[]
theorem Told.tab {q : Program} {mg : Str → Option Value} {h : Heap} (T : Told q mg h) {K : PySem.W.Frag} (X : K.In h) {x : Str} (hx : ((PyProof.Rows.recsOf q).any fun e => e.name == x) = true) {f c P : Addr} (hm : mg x = some (.ref f))
    {oc : Value} {od : Option Addr} {fd : FuncData} {osl : Array (Option Value)} (l : K.lookup f = some ⟨oc, od, .func fd, osl⟩) (hc : fd.code = .ref c)
    {e : Value} {dd : Option Addr} {vs : Array Value} {sl : Array (Option Value)} (lc : K.lookup c = some ⟨e, dd, .fields vs, sl⟩) (h11 : vs[11]? = some (.ref P)) :
    PySem.W.CodeHd h c P ∧ h.get? P = some { cls := .none, data := .fields #[] } := by
  obtain ⟨d, hd, he⟩ := List.any_eq_true.mp hx
  have hn : d.name = x := beq_iff_eq.mp he
  obtain ⟨f1, o1, fd1, c1, P1, g1, g2, g3, g4, g5, g6⟩ := T d hd
  rw [hn, hm] at g1
  obtain rfl : f = f1 := by injection (Option.some.inj g1)
  rw [X _ _ l] at g2
  obtain rfl := Option.some.inj g2
  obtain rfl : fd = fd1 := by injection g3
  rw [hc] at g4
  obtain rfl : c = c1 := by injection g4
  have hd' := PySem.W.CodeHd.of g5 g6
  obtain ⟨⟨o2, v2, e1, _, e3, e4⟩, hP⟩ := g6
  rw [X _ _ lc] at e1
  obtain rfl := Option.some.inj e1
  obtain rfl : vs = v2 := by injection e3
  rw [h11] at e4
  obtain rfl : P = P1 := by injection (Option.some.inj e4)
  exact ⟨hd', hP⟩
theorem walk_tabs {l : PySem.W.OpenLaw} {n k : Nat} {q : Program} {loose : List Str} {XP : (Str → Option Value) → Heap → Prop} {YP : World → Heap → Prop} {d : DefRec} {K : Params → PySem.W.Frag} {CX : World → CXT} {x : Str}
    (hn : l.most = some n) (hn2 : n ≤ sizeLine) (hdf : d.params.defaults = []) (hr : Room k callerA) (hY : ∀ (w : World) (h : Heap), YP w h → (K w.params).In h)
    (F : ∀ (w : World) (mg : Str → Option Value) (fa : Addr) (h : Heap), (K w.params).In h → h.Ns mainGlobals mg → mg d.name = some (.ref fa) → Told q mg h → LamX.LawAtS l w (K w.params) (CX w) k n x mg fa h)
    (hCX : ∀ (w : World) (H : Hp) (s : Shared) (e : Value) (s' : Shared), CX w [] H s (fun _ _ _ => False) e s' → False) :
    PySem.W.WalkO q loose XP YP l.row.toRowW d [] (fun f vs => PySem.call f vs) := by
  refine Att.attach_callB hn hdf ?_
  intro w s0 s1 mg mb fa o pm cd doc a vs ns G Y ho hd hcd hmg hobj hints hlen hbits hg
  have KX := hY w _ Y
  obtain ⟨fd, cs, sp, t1, t2, t3, hb, hsp, hF⟩ := F w mg fa _ KX G.T.g hmg G.T.tab
  exact LamX.law_callTs KX G.T.g G.T.b G.T.builtins G.T.nolimit hg t1 t2 t3 G.T.bmain hobj hints (Nat.le_trans hlen hn2) hr hF hb (fun H hH hS => hsp H a ns hlen hbits hH hS) fun H e s' => hCX w H s1 e s'
theorem tb_conv {base : Heap} {mg : Str → Option Value} {c P : Addr} (h : LamX.TabB base mg c P) : GxR.TabB base mg c P := ⟨h.code, h.bm, h.gP⟩
theorem tbAt_one {K : PySem.W.Frag} {nm : Str} {f c P : Addr} {oc : Value} {od : Option Addr} {fd : FuncData} {sl : Array (Option Value)} {e : Value} {dd : Option Addr} {vs : Array Value} {sx : Array (Option Value)}
    (a : PySem.W.nsIn K mainGlobals nm = some (some (.ref f))) (l : K.lookup f = some ⟨oc, od, .func fd, sl⟩) (hc : fd.code = .ref c) (lc : K.lookup c = some ⟨e, dd, .fields vs, sx⟩) (h11 : vs[11]? = some (.ref P)) {c' P' : Addr} (h : TbAt K nm c' P') : P' = P := by
  obtain ⟨f2, oc2, od2, fd2, sl2, e2, dd2, vs2, sx2, h1, h2, h3, h4, h5⟩ := h
  rw [a] at h1
  cases h1
  rw [l] at h2
  cases h2
  rw [hc] at h3
  cases h3
  rw [lc] at h4
  cases h4
  rw [h11] at h5
  cases h5
  rfl
theorem tbAt_no {K : PySem.W.Frag} {nm : Str} {c P : Addr} (z : PySem.W.nsIn K mainGlobals nm = some none) : ¬ TbAt K nm c P := fun ⟨f2, oc2, od2, fd2, sl2, e2, dd2, vs2, sx2, h1, _⟩ => by
  rw [z] at h1
  cases h1
theorem tabG_of {H : Hp} {P : Addr} (h : H P = some (.tbl #[])) : GxR.TabG H P := ⟨#[], h, trivial⟩
end Vl
namespace Kf
open PySem L2 Vl PySem.Spec PyProof.Rows
def t_standonce_1 (p_sidesof : VSp) : VTS := (vRet (vAG true (vSeqI (vListV (vN (opCallK ownO p_sidesof) (vCons (vVar 0) (vCons (vVar 1) vNil))))) [none] [0] (vgName 0) (v2 opLe (vN opMaxT (vCons (vVar 0) vNil)) (vC (.int 1)))))
def t_standonce (p_sidesof : VSp) : VTS := (t_standonce_1 p_sidesof)
def t_lawk67_1 (p_Lcasev4 p_Lpool p_Lsides p_sidesof p_standonce : VSp) : VTS := (vRet (vC (.bool false)))
def t_lawk67_2 (p_Lcasev4 p_Lpool p_Lsides p_sidesof p_standonce : VSp) : VTS := (vRet (vC (.bool false)))
def t_lawk67_3 (p_Lcasev4 p_Lpool p_Lsides p_sidesof p_standonce : VSp) : VTS := (vIfS (vTest (v2 (xEq true) (vLcK (vTupI (vDIx (vVar 6) (vVar 7))) (vgName 12) (vOrT (vNotT (vTest (vIsi "int" (vVar 12)))) (vTest (vIsi "bool" (vVar 12)))) (vVar 12) [12] finD) (vN opLst vNil))) (t_lawk67_2 p_Lcasev4 p_Lpool p_Lsides p_sidesof p_standonce) vNext)
def t_lawk67_4 (p_Lcasev4 p_Lpool p_Lsides p_sidesof p_standonce : VSp) : VTS := (vRet (vC (.bool false)))
def t_lawk67_5 (p_Lcasev4 p_Lpool p_Lsides p_sidesof p_standonce : VSp) : VTS := (vRet (vC (.bool false)))
def t_lawk67_6 (p_Lcasev4 p_Lpool p_Lsides p_sidesof p_standonce : VSp) : VTS := (vSet 9 (vN opTup (vCons (vC (.str "to")) (vCons (vVar 11) (vCons (vVar 9) vNil)))))
def t_lawk67_7 (p_Lcasev4 p_Lpool p_Lsides p_sidesof p_standonce : VSp) : VTS := (vRet (vC (.bool false)))
def t_lawk67_8 (p_Lcasev4 p_Lpool p_Lsides p_sidesof p_standonce : VSp) : VTS := (vIfS (vOrT (vTest (v2 (opNeM true) (vN (opCallK ownO p_sidesof) (vCons (vN opLst vNil) (vCons (vVar 9) vNil))) (vVar 4))) (vOrT (vTest (v2 (opNeM true) (vN (opCallK ownO p_sidesof) (vCons (vN opList (vCons (vVar 2) vNil)) (vCons (vVar 3) vNil))) (vVar 4))) (vTest (v2 (xEq true) (vN (opCallK ownD p_standonce) (vCons (vN opLst vNil) (vCons (vVar 9) vNil))) (vVar 8))))) (t_lawk67_7 p_Lcasev4 p_Lpool p_Lsides p_sidesof p_standonce) vNext)
def t_lawk67_9 (p_Lcasev4 p_Lpool p_Lsides p_sidesof p_standonce : VSp) : VTS := vSeq (vForW (vSeqI (v1 opRev (vVar 2))) (vgTup 2 (vgCons (vgName 10) (vgCons (vgName 11) vgNil)))
        (t_lawk67_6 p_Lcasev4 p_Lpool p_Lsides p_sidesof p_standonce)) (t_lawk67_8 p_Lcasev4 p_Lpool p_Lsides p_sidesof p_standonce)
def t_lawk67_10 (p_Lcasev4 p_Lpool p_Lsides p_sidesof p_standonce : VSp) : VTS := vSeq (vSet 9 (vVar 3)) (t_lawk67_9 p_Lcasev4 p_Lpool p_Lsides p_sidesof p_standonce)
def t_lawk67_11 (p_Lcasev4 p_Lpool p_Lsides p_sidesof p_standonce : VSp) : VTS := vSeq (vDrop (vClrM (vVar 6))) (t_lawk67_10 p_Lcasev4 p_Lpool p_Lsides p_sidesof p_standonce)
def t_lawk67_12 (p_Lcasev4 p_Lpool p_Lsides p_sidesof p_standonce : VSp) : VTS := vSeq (vIfS (vOrT (vNotT (vTest (vIsi "bool" (vVar 8)))) (vTest (v2 (xEq true) (vVar 8) (v2 (xEq false) (vLockE 4 (vLcK (vKeysL (vVar 4)) (vgName 7) (vTest (v2 opGt (vN opMaxT (vCons (vDIx (vVar 4) (vVar 7)) vNil)) (vC (.int 1)))) (vVar 7) [7] finD)) (vN opLst vNil))))) (t_lawk67_5 p_Lcasev4 p_Lpool p_Lsides p_sidesof p_standonce) vNext) (t_lawk67_11 p_Lcasev4 p_Lpool p_Lsides p_sidesof p_standonce)
def t_lawk67_13 (p_Lcasev4 p_Lpool p_Lsides p_sidesof p_standonce : VSp) : VTS := vSeq (vIfS (vTest (v2 (xEq true) (vVar 5) (vVar 2))) (t_lawk67_4 p_Lcasev4 p_Lpool p_Lsides p_sidesof p_standonce) vNext) (t_lawk67_12 p_Lcasev4 p_Lpool p_Lsides p_sidesof p_standonce)
def t_lawk67_14 (p_Lcasev4 p_Lpool p_Lsides p_sidesof p_standonce : VSp) : VTS := vSeq (vSet 8 (vN (opCallK ownD p_standonce) (vCons (vVar 5) (vCons (vVar 3) vNil)))) (t_lawk67_13 p_Lcasev4 p_Lpool p_Lsides p_sidesof p_standonce)
def t_lawk67_15 (p_Lcasev4 p_Lpool p_Lsides p_sidesof p_standonce : VSp) : VTS := vSeq (vLockS 6 (vForW (vKeysL (vVar 6)) (vgName 7)
        (t_lawk67_3 p_Lcasev4 p_Lpool p_Lsides p_sidesof p_standonce))) (t_lawk67_14 p_Lcasev4 p_Lpool p_Lsides p_sidesof p_standonce)
def t_lawk67_16 (p_Lcasev4 p_Lpool p_Lsides p_sidesof p_standonce : VSp) : VTS := vSeq (vIfS (vOrT (vNotT (vTest (vIsM "dict" (vVar 6)))) (vTest (v2 (opNeM true) (vVar 6) (vVar 4)))) (t_lawk67_1 p_Lcasev4 p_Lpool p_Lsides p_sidesof p_standonce) vNext) (t_lawk67_15 p_Lcasev4 p_Lpool p_Lsides p_sidesof p_standonce)
def t_lawk67_17 (p_Lcasev4 p_Lpool p_Lsides p_sidesof p_standonce : VSp) : VTS := vSeq (vSet 6 (vN (opCallK ownO p_sidesof) (vCons (vVar 5) (vCons (vVar 3) vNil)))) (t_lawk67_16 p_Lcasev4 p_Lpool p_Lsides p_sidesof p_standonce)
def t_lawk67_18 (p_Lcasev4 p_Lpool p_Lsides p_sidesof p_standonce : VSp) : VTS := vSeq (vSet 5 (vN opList (vCons (vVar 2) vNil))) (t_lawk67_17 p_Lcasev4 p_Lpool p_Lsides p_sidesof p_standonce)
def t_lawk67_19 (p_Lcasev4 p_Lpool p_Lsides p_sidesof p_standonce : VSp) : VTS := vSeq (vSet 4 (vN (opCallK ownO p_Lsides) (vCons (vVar 2) (vCons (vVar 3) vNil)))) (t_lawk67_18 p_Lcasev4 p_Lpool p_Lsides p_sidesof p_standonce)
def t_lawk67_20 (p_Lcasev4 p_Lpool p_Lsides p_sidesof p_standonce : VSp) : VTS := vSeq (vAsg (vN (opCallK ownD p_Lcasev4) (vCons (vN (opCallK ownO p_Lpool) (vCons (vVar 0) (vCons (vVar 1) vNil))) (vCons (vC (.int 12)) vNil))) (vgTup 2 (vgCons (vgName 2) (vgCons (vgName 3) vgNil)))) (t_lawk67_19 p_Lcasev4 p_Lpool p_Lsides p_sidesof p_standonce)
def t_lawk67_21 (p_Lcasev4 p_Lpool p_Lsides p_sidesof p_standonce : VSp) : VTS := (vRet (vC (.bool true)))
def t_lawk67_22 (p_Lcasev4 p_Lpool p_Lsides p_sidesof p_standonce : VSp) : VTS := vSeq (vForW (vRng1 (vCons (vN (opII gMax) (vCons (vC (.int 1)) (vCons (vN (opII gMin) (vCons (vN opLen (vCons (vVar 0) vNil)) (vCons (vC (.int 16)) vNil))) vNil))) vNil)) (vgName 1)
      (t_lawk67_20 p_Lcasev4 p_Lpool p_Lsides p_sidesof p_standonce)) (t_lawk67_21 p_Lcasev4 p_Lpool p_Lsides p_sidesof p_standonce)
def t_lawk67 (p_Lcasev4 p_Lpool p_Lsides p_sidesof p_standonce : VSp) : VTS := (t_lawk67_22 p_Lcasev4 p_Lpool p_Lsides p_sidesof p_standonce)
end Kf
namespace Kf
open PySem L2 Vl PySem.Spec PyProof.Rows
def le1 (n : Nat × Nat) : Bool := decide (n.1 ≤ 1) && decide (n.2 ≤ 1)
theorem le1_max {n : Nat × Nat} {m : Int} (hm : m ∈ [((n.1 : Nat) : Int), ((n.2 : Nat) : Int)]) (hy : ∀ y : Int, y ∈ [((n.1 : Nat) : Int), ((n.2 : Nat) : Int)] → y ≤ m) : decide (m ≤ 1) = le1 n := by
  have h1 := hy _ (List.mem_cons_self ..)
  have h2 := hy _ (List.mem_cons_of_mem _ (List.mem_cons_self ..))
  unfold le1
  rw [Bool.eq_iff_iff, decide_eq_true_iff, Bool.and_eq_true, decide_eq_true_iff, decide_eq_true_iff]
  rcases List.mem_cons.mp hm with rfl | hm
  · constructor <;> intro g <;> omega
  · rw [List.mem_singleton.mp hm] at h1 h2 ⊢
    constructor <;> intro g <;> omega
theorem ag_once {st : List (Option Ob)} {Kp : Bool → En → Prop} : ∀ (l : List (Nat × Nat)), (∀ s0, Kp (l.all le1) ⟨[s0], st⟩) → ag true (vgName 0) (v2 opLe (vN opMaxT (vCons (vVar 0) vNil)) (vC (.int 1))) none [0] (l.map prD) ⟨[none], st⟩ Kp
  | [], h => h none
  | n :: l, h => by
    have ih := @ag_once st Kp l
    generalize eL : l.map prD = L at ih
    simp only [List.map_cons, eL]
    simp only [ag, prD, opMaxT, intsD, flatD, List.any_cons, List.any_nil, eqv_str, eqv_int, eqv_ti, eqv_it, eqv_st, eqv_ts, cut1, Bool.or_false, Bool.or_true, Bool.and_self, Bool.and_true, Bool.and_false, Bool.false_or, Bool.true_or, and_self, ofs_inj, ofs_app, ofs_len, String.reduceEq, String.reduceNe, String.reduceAppend, decide_true, decide_false, Bool.not_true, Bool.not_false, sz0, sz1, sz2, sz3, sz4, sz5, sz6, sz7, sz8, sz9, sz10, sz11, sz12, sz13, sz14, sz15, sz16, sz17, sz18, sz19, sz20, sz21, sz22, sz23, sz24, sz25, cpow1018, true_and, and_true, Nat.reduceAdd, Nat.reduceLT, Nat.reduceSub, Int.reduceNe, Int.reduceEq, Int.reduceLT, Int.reduceLE, Int.reduceToNat, ne_eq, not_false_eq_true, List.length_map, Nat.lt_irrefl, dV_nx, dV_rt, at0, at1, at2, at3, ix20, ix21, vSeq, vIfS, vTest, vTruth, truth, v2, v1, vN, vCons, vNil, vStar, vVar, vC, xIx, Vl.opI0, Vl.opI, pk, vSet, vAug, vAsg, xgSub, vRet, vRetN, vNext_mk, vDrop, vBreak, vCont, asD, asDs, opMod, opDiv, opMul2, Vl.opAdd, Vl.opAddO, opSub, opPow, opLt, Vl.opLe, opGt, Vl.opGe, xEq, okEq_str, okEq_int, xIn, okIn, inD, xIsN, isNone_n, isNone_t, isNone_l, isNone_i, isNone_s, isMo, mob, pkm, gModI, gDivI, gSubI, gMulI, gPowI, gGt, gLt, gLe, gGe, vNotT, vAndT, vOrT, vAndV, vOrV, opNot, opNotG, vIfE, opTup, opLst, opLstO, Vl.opLen, Vl.opInt, opList, opListO, opTuple, opII, gMax, gMin, vM, vM0, isT, xPop, Vl.opAppend, opExtend, opJoin, vgName, vgTup, vgCons, vgNil, kOpt_some, kOpn_some, kOps_some, Vl.opSum, Vl.opInsert, Vl.opIndex, opDivmod, vSl, vPart, vNoPart, opSl, opSlO, opRev, opCallK, ownD, ownO, objs, renum, uniq, getS, putS, vCall0, vFor, vForW, En.wk, vSeqI, vTupI, vRng1, vRng2, vRngD, vFn, vCallL, vOdd, vWays, vEnum, vZip, chkOf, vLcK, vYes, finD, finO, En.wipe, wipeE, En.trim, trimS, dropNone, clr_n, clr_v, clr_k, clr_o, wth, Vl.ret, takeS, startV,  List.map_cons, List.map_nil, List.length_cons, List.length_nil, List.cons_append, List.nil_append, List.replicate, List.getElem?_cons_succ, List.getElem?_cons_zero, List.getElem?_nil, List.set_cons_succ, List.set_cons_zero, List.set_nil, List.all_nil, List.all_cons, Bool.true_and, Option.map_some, Option.map_none, if_true, if_false, decide_eq_true_eq, Bool.false_eq_true, List.take_succ_cons, List.take_zero, List.take_nil, List.drop_succ_cons, List.drop_zero, List.drop_nil, reduceIte, reduceCtorEq]
    intro m hm hy
    have e := le1_max hm hy
    rw [List.all_cons] at h
    by_cases q : m ≤ 1
    · rw [if_pos q]
      rw [decide_eq_true q] at e
      rw [← e, Bool.true_and] at h
      exact ih h
    · rw [if_neg q]
      rw [decide_eq_false q] at e
      rw [← e, Bool.false_and] at h
      rw [decide_eq_false q]
      exact h _
/-- no mark stands more than once on a side -/
def Once (f : Ct) (b : Bool) : Prop := b = true ↔ ∀ y, (f y).1 ≤ 1 ∧ (f y).2 ≤ 1
theorem MR.once {kvs : List (Ky × D)} {f : Ct} (h : MR kvs f) : ∃ l : List (Nat × Nat), kvs.map (·.2) = l.map prD ∧ Once f (l.all le1) := by
  suffices g : ∀ ks : List (Ky × D), (∀ p ∈ ks, p ∈ kvs) → ∃ l : List (Nat × Nat), ks.map (·.2) = l.map prD ∧ ∀ n, n ∈ l ↔ ∃ p ∈ ks, ∃ x, p.1 = .inr x ∧ n = f x by
    obtain ⟨l, h1, h2⟩ := g kvs fun p hp => hp
    refine ⟨l, h1, ?_⟩
    unfold Once
    rw [List.all_eq_true]
    constructor
    · intro a y
      by_cases c : f y = (0, 0)
      · rw [c]
        exact ⟨Nat.zero_le _, Nat.zero_le _⟩
      · have q := h.get y
        rw [if_neg c] at q
        have := a (f y) ((h2 _).mpr ⟨_, findK_has q, y, rfl, rfl⟩)
        unfold le1 at this
        rw [Bool.and_eq_true, decide_eq_true_iff, decide_eq_true_iff] at this
        exact this
    · intro a n hn
      obtain ⟨p, _, x, _, rfl⟩ := (h2 n).mp hn
      unfold le1
      rw [Bool.and_eq_true, decide_eq_true_iff, decide_eq_true_iff]
      exact a x
  intro ks
  induction ks with
  | nil => exact fun _ => ⟨[], rfl, fun n => ⟨fun h => absurd h List.not_mem_nil, fun ⟨p, hp, _⟩ => absurd hp List.not_mem_nil⟩⟩
  | cons p ks ih =>
    intro hk
    obtain ⟨l, h1, h2⟩ := ih fun p hp => hk p (List.mem_cons_of_mem _ hp)
    obtain ⟨x, e1, e2, e3⟩ := h.key p (hk p List.mem_cons_self)
    refine ⟨f x :: l, by rw [List.map_cons, List.map_cons, h1, e2], fun n => ?_⟩
    rw [List.mem_cons, h2]
    constructor
    · rintro (rfl | ⟨p', hp', r⟩)
      · exact ⟨p, List.mem_cons_self, x, e1, rfl⟩
      · exact ⟨p', List.mem_cons_of_mem _ hp', r⟩
    · rintro ⟨p', hp', y, q1, q2⟩
      rcases List.mem_cons.mp hp' with rfl | hp'
      · rw [e1] at q1
        cases q1
        exact .inl q2
      · exact .inr ⟨p', hp', y, q1, q2⟩
def pOnce : VSp := fun ss st Kp => ∃ (r : List (Str × Kd)) (k : Kd), ss = [.val (.list (r.map encB)), .val k.enc] ∧ st = [] ∧ mS ((k, true) :: rowSd r) ≤ 1000000 ∧ ∀ b, Once (ctAll r k) b → Kp (.val (.bool b)) []
theorem r_once {ss cs Kp} (h : pOnce ss cs Kp) : t_standonce pSides (dV cs.length Kp) ⟨startV 2 ss, cs.map some⟩ := by
  obtain ⟨r, k, rfl, rfl, hb, q⟩ := h
  simp only [t_standonce, t_standonce_1, vAG, vListV, pSides, flatD, List.any_cons, List.any_nil, eqv_str, eqv_int, eqv_ti, eqv_it, eqv_st, eqv_ts, cut1, Bool.or_false, Bool.or_true, Bool.and_self, Bool.and_true, Bool.and_false, Bool.false_or, Bool.true_or, and_self, ofs_inj, ofs_app, ofs_len, String.reduceEq, String.reduceNe, String.reduceAppend, decide_true, decide_false, Bool.not_true, Bool.not_false, sz0, sz1, sz2, sz3, sz4, sz5, sz6, sz7, sz8, sz9, sz10, sz11, sz12, sz13, sz14, sz15, sz16, sz17, sz18, sz19, sz20, sz21, sz22, sz23, sz24, sz25, cpow1018, true_and, and_true, Nat.reduceAdd, Nat.reduceLT, Nat.reduceSub, Int.reduceNe, Int.reduceEq, Int.reduceLT, Int.reduceLE, Int.reduceToNat, ne_eq, not_false_eq_true, List.length_map, Nat.lt_irrefl, dV_nx, dV_rt, at0, at1, at2, at3, ix20, ix21, vSeq, vIfS, vTest, vTruth, truth, v2, v1, vN, vCons, vNil, vStar, vVar, vC, xIx, Vl.opI0, Vl.opI, pk, vSet, vAug, vAsg, xgSub, vRet, vRetN, vNext_mk, vDrop, vBreak, vCont, asD, asDs, opMod, opDiv, opMul2, Vl.opAdd, Vl.opAddO, opSub, opPow, opLt, Vl.opLe, opGt, Vl.opGe, xEq, okEq_str, okEq_int, xIn, okIn, inD, xIsN, isNone_n, isNone_t, isNone_l, isNone_i, isNone_s, isMo, mob, pkm, gModI, gDivI, gSubI, gMulI, gPowI, gGt, gLt, gLe, gGe, vNotT, vAndT, vOrT, vAndV, vOrV, opNot, opNotG, vIfE, opTup, opLst, opLstO, Vl.opLen, Vl.opInt, opList, opListO, opTuple, opII, gMax, gMin, vM, vM0, isT, xPop, Vl.opAppend, opExtend, opJoin, vgName, vgTup, vgCons, vgNil, kOpt_some, kOpn_some, kOps_some, Vl.opSum, Vl.opInsert, Vl.opIndex, opDivmod, vSl, vPart, vNoPart, opSl, opSlO, opRev, opCallK, ownD, ownO, objs, renum, uniq, getS, putS, vCall0, vFor, vForW, En.wk, vSeqI, vTupI, vRng1, vRng2, vRngD, vFn, vCallL, vOdd, vWays, vEnum, vZip, chkOf, vLcK, vYes, finD, finO, En.wipe, wipeE, En.trim, trimS, dropNone, clr_n, clr_v, clr_k, clr_o, wth, Vl.ret, takeS, startV,  List.map_cons, List.map_nil, List.length_cons, List.length_nil, List.cons_append, List.nil_append, List.replicate, List.getElem?_cons_succ, List.getElem?_cons_zero, List.getElem?_nil, List.set_cons_succ, List.set_cons_zero, List.set_nil, List.all_nil, List.all_cons, Bool.true_and, Option.map_some, Option.map_none, if_true, if_false, decide_eq_true_eq, Bool.false_eq_true, List.take_succ_cons, List.take_zero, List.take_nil, List.drop_succ_cons, List.drop_zero, List.drop_nil, reduceIte, reduceCtorEq]
  refine ⟨r, k, rfl, hb, fun kvs hm => ?_⟩
  obtain ⟨l, h1, h2⟩ := hm.once
  rw [h1]
  refine ag_once l fun s0 => ?_
  exact q _ h2
end Kf
namespace Kf
open PySem L2 Vl PySem.Spec PyProof.Rows
def wholeK : List (Str × Kd) → Kd → Kd
  | [], k => k
  | x :: r, k => .to x.2 (wholeK r k)
theorem wholeK_add (r : List (Str × Kd)) (k : Kd) (y : Str) : (wholeK r k).add true y = ctAll r k y := by
  induction r with
  | nil => simp [wholeK, ctAll, rowSd, tot]
  | cons x r ih =>
    simp only [wholeK, Kd.add, ih]
    simp only [ctAll, rowSd, List.map_cons, tot, Bool.not_true, Prod.mk.injEq]
    omega
theorem wholeK_ct (r : List (Str × Kd)) (k : Kd) : ctAll [] (wholeK r k) = ctAll r k := funext fun y => by
  show (((wholeK r k).add true y).1 + 0, ((wholeK r k).add true y).2 + 0) = _
  rw [wholeK_add, Nat.add_zero, Nat.add_zero]
theorem wholeK_leaves (r : List (Str × Kd)) (k : Kd) : (wholeK r k).leaves = k.leaves + sumL r := by
  induction r with
  | nil => rfl
  | cons x r ih => simp only [wholeK, Kd.leaves, ih, sumL]; omega
theorem sumL_le (r : List (Str × Kd)) : 2 * sumL r ≤ mS (rowSd r) + r.length := by
  induction r with
  | nil => exact Nat.le_refl _
  | cons x r ih =>
    have := x.2.leaves_pos
    show 2 * (x.2.leaves + sumL r) ≤ (2 * x.2.leaves - 1) + mS (rowSd r) + (r.length + 1)
    omega
theorem fghi_ok : ∀ x ∈ (["f", "g", "h", "i"] : List Str), PyData.strOk x = true := by decide +kernel
theorem row_shp {r : List (Str × Kd)} (h : ∀ x ∈ r, x.1 ∈ (["f", "g", "h", "i"] : List Str) ∧ okS (x.2, false)) : Vl.shp (.list (r.map encB)) = true := by
  have a : PyData.canLayAll0 (r.map encB) = true ∧ PyData.depthAll (r.map encB) ≤ 110 := by
    induction r with
    | nil => rw [List.map_nil, canAll_nil, depthAll_nil]; exact ⟨rfl, Nat.zero_le _⟩
    | cons x l ih =>
      obtain ⟨i1, i2⟩ := ih fun y hy => h y (List.mem_cons_of_mem _ hy)
      obtain ⟨h0, h1, h2⟩ := h x List.mem_cons_self
      have hs : PyData.canLay0 (.str x.1) = true := by rw [can_str]; exact fghi_ok _ h0
      rw [List.map_cons, canAll_cons, depthAll_cons, encB, can_tup, depth_tup, canAll_cons, canAll_cons, canAll_nil, depthAll_cons, depthAll_cons, depthAll_nil, hs, depth_str, x.2.can_enc m67_ok h1, x.2.depth_enc, i1]
      have h2' : x.2.deep ≤ 100 := h2
      exact ⟨rfl, by omega⟩
  unfold Vl.shp
  rw [can_lst, depth_lst, a.1, decide_eq_true (by omega)] <;> rfl
theorem MR.keys {kvs : List (Ky × D)} {f : Ct} (h : MR kvs f) (p : Ky × D) (hp : p ∈ kvs) : ∃ x n, p.1 = .inr x ∧ p.2 = prD n ∧ n = f x ∧ findK kvs (.inr x) = some (prD n) := by
  obtain ⟨x, e1, e2, e3⟩ := h.key p hp
  refine ⟨x, f x, e1, e2, rfl, ?_⟩
  have := h.get x
  rw [if_neg e3] at this
  exact this
theorem law_loop {D0 : VEnds} {f : Ct} {kf kd : List (Ky × D)} (hf : MR kf f) (od : Obj) (vs : List (L2.Key × V)) (d0 d1 d2 d3 d5 : D) (ns po : List D) (p1 p2 p3 p4 p5 : VSp)
    (q : D0.nx ⟨[some (.kn ns), some (.val d1), some (.val d2), some (.val d3), some (.obj 1), some (.val d5), some (.obj 2), none, none, none, none, none, none], [some (.l po), some (.m kd), some (.lk od vs kf)]⟩) :
    flW (vgName 7) (t_lawk67_3 p1 p2 p3 p4 p5) (some fun e => e.st[2]? = some (some (Ob.lk od vs kf))) 3 (kf.map fun kv => keyD kv.1) D0
      ⟨[some (.kn ns), some (.val d1), some (.val d2), some (.val d3), some (.obj 1), some (.val d5), some (.obj 2), none, none, none, none, none, none], [some (.l po), some (.m kd), some (.lk od vs kf)]⟩ := by
  refine fl_invW (fun kv : Ky × D => keyD kv.1) kf (fun ys e => e = ⟨[some (.kn ns), some (.val d1), some (.val d2), some (.val d3), some (.obj 1), some (.val d5), some (.obj 2), none, none, none, none, none, none], [some (.l po), some (.m kd), some (.lk od vs kf)]⟩) (fun _ e h => by subst h; rfl) ?_ (fun e h => by subst h; exact q) rfl
  rintro ys p zs e Nx hys rfl hk
  obtain ⟨x, n, e1, e2, _, e4⟩ := hf.keys p (by rw [hys]; simp)
  simp only [e1, keyD]
  simp only [t_lawk67_3, vDIx, dGetO, dKey, e4, prD, vIsi, tyD, flatD, List.any_cons, List.any_nil, eqv_str, eqv_int, eqv_ti, eqv_it, eqv_st, eqv_ts, cut1, Bool.or_false, Bool.or_true, Bool.and_self, Bool.and_true, Bool.and_false, Bool.false_or, Bool.true_or, and_self, ofs_inj, ofs_app, ofs_len, String.reduceEq, String.reduceNe, String.reduceAppend, decide_true, decide_false, Bool.not_true, Bool.not_false, sz0, sz1, sz2, sz3, sz4, sz5, sz6, sz7, sz8, sz9, sz10, sz11, sz12, sz13, sz14, sz15, sz16, sz17, sz18, sz19, sz20, sz21, sz22, sz23, sz24, sz25, cpow1018, true_and, and_true, Nat.reduceAdd, Nat.reduceLT, Nat.reduceSub, Int.reduceNe, Int.reduceEq, Int.reduceLT, Int.reduceLE, Int.reduceToNat, ne_eq, not_false_eq_true, List.length_map, Nat.lt_irrefl, dV_nx, dV_rt, at0, at1, at2, at3, ix20, ix21, vSeq, vIfS, vTest, vTruth, truth, v2, v1, vN, vCons, vNil, vStar, vVar, vC, xIx, Vl.opI0, Vl.opI, pk, vSet, vAug, vAsg, xgSub, vRet, vRetN, vNext_mk, vDrop, vBreak, vCont, asD, asDs, opMod, opDiv, opMul2, Vl.opAdd, Vl.opAddO, opSub, opPow, opLt, Vl.opLe, opGt, Vl.opGe, xEq, okEq_str, okEq_int, xIn, okIn, inD, xIsN, isNone_n, isNone_t, isNone_l, isNone_i, isNone_s, isMo, mob, pkm, gModI, gDivI, gSubI, gMulI, gPowI, gGt, gLt, gLe, gGe, vNotT, vAndT, vOrT, vAndV, vOrV, opNot, opNotG, vIfE, opTup, opLst, opLstO, Vl.opLen, Vl.opInt, opList, opListO, opTuple, opII, gMax, gMin, vM, vM0, isT, xPop, Vl.opAppend, opExtend, opJoin, vgName, vgTup, vgCons, vgNil, kOpt_some, kOpn_some, kOps_some, Vl.opSum, Vl.opInsert, Vl.opIndex, opDivmod, vSl, vPart, vNoPart, opSl, opSlO, opRev, opCallK, ownD, ownO, objs, renum, uniq, getS, putS, vCall0, vFor, vForW, En.wk, vSeqI, vTupI, vRng1, vRng2, vRngD, vFn, vCallL, vOdd, vWays, vEnum, vZip, chkOf, vLcK, vYes, finD, finO, En.wipe, wipeE, En.trim, trimS, dropNone, clr_n, clr_v, clr_k, clr_o, wth, Vl.ret, takeS, startV,  List.map_cons, List.map_nil, List.length_cons, List.length_nil, List.cons_append, List.nil_append, List.replicate, List.getElem?_cons_succ, List.getElem?_cons_zero, List.getElem?_nil, List.set_cons_succ, List.set_cons_zero, List.set_nil, List.all_nil, List.all_cons, Bool.true_and, Option.map_some, Option.map_none, if_true, if_false, decide_eq_true_eq, Bool.false_eq_true, List.take_succ_cons, List.take_zero, List.take_nil, List.drop_succ_cons, List.drop_zero, List.drop_nil, reduceIte, reduceCtorEq]
  simp only [cl, vIsi, tyD, flatD, List.any_cons, List.any_nil, eqv_str, eqv_int, eqv_ti, eqv_it, eqv_st, eqv_ts, cut1, Bool.or_false, Bool.or_true, Bool.and_self, Bool.and_true, Bool.and_false, Bool.false_or, Bool.true_or, and_self, ofs_inj, ofs_app, ofs_len, String.reduceEq, String.reduceNe, String.reduceAppend, decide_true, decide_false, Bool.not_true, Bool.not_false, sz0, sz1, sz2, sz3, sz4, sz5, sz6, sz7, sz8, sz9, sz10, sz11, sz12, sz13, sz14, sz15, sz16, sz17, sz18, sz19, sz20, sz21, sz22, sz23, sz24, sz25, cpow1018, true_and, and_true, Nat.reduceAdd, Nat.reduceLT, Nat.reduceSub, Int.reduceNe, Int.reduceEq, Int.reduceLT, Int.reduceLE, Int.reduceToNat, ne_eq, not_false_eq_true, List.length_map, Nat.lt_irrefl, dV_nx, dV_rt, at0, at1, at2, at3, ix20, ix21, vSeq, vIfS, vTest, vTruth, truth, v2, v1, vN, vCons, vNil, vStar, vVar, vC, xIx, Vl.opI0, Vl.opI, pk, vSet, vAug, vAsg, xgSub, vRet, vRetN, vNext_mk, vDrop, vBreak, vCont, asD, asDs, opMod, opDiv, opMul2, Vl.opAdd, Vl.opAddO, opSub, opPow, opLt, Vl.opLe, opGt, Vl.opGe, xEq, okEq_str, okEq_int, xIn, okIn, inD, xIsN, isNone_n, isNone_t, isNone_l, isNone_i, isNone_s, isMo, mob, pkm, gModI, gDivI, gSubI, gMulI, gPowI, gGt, gLt, gLe, gGe, vNotT, vAndT, vOrT, vAndV, vOrV, opNot, opNotG, vIfE, opTup, opLst, opLstO, Vl.opLen, Vl.opInt, opList, opListO, opTuple, opII, gMax, gMin, vM, vM0, isT, xPop, Vl.opAppend, opExtend, opJoin, vgName, vgTup, vgCons, vgNil, kOpt_some, kOpn_some, kOps_some, Vl.opSum, Vl.opInsert, Vl.opIndex, opDivmod, vSl, vPart, vNoPart, opSl, opSlO, opRev, opCallK, ownD, ownO, objs, renum, uniq, getS, putS, vCall0, vFor, vForW, En.wk, vSeqI, vTupI, vRng1, vRng2, vRngD, vFn, vCallL, vOdd, vWays, vEnum, vZip, chkOf, vLcK, vYes, finD, finO, En.wipe, wipeE, En.trim, trimS, dropNone, clr_n, clr_v, clr_k, clr_o, wth, Vl.ret, takeS, startV,  List.map_cons, List.map_nil, List.length_cons, List.length_nil, List.cons_append, List.nil_append, List.replicate, List.getElem?_cons_succ, List.getElem?_cons_zero, List.getElem?_nil, List.set_cons_succ, List.set_cons_zero, List.set_nil, List.all_nil, List.all_cons, Bool.true_and, Option.map_some, Option.map_none, if_true, if_false, decide_eq_true_eq, Bool.false_eq_true, List.take_succ_cons, List.take_zero, List.take_nil, List.drop_succ_cons, List.drop_zero, List.drop_nil, reduceIte, reduceCtorEq]
  refine ⟨true, by decide +kernel, ?_⟩
  simp only [flatD, List.any_cons, List.any_nil, eqv_str, eqv_int, eqv_ti, eqv_it, eqv_st, eqv_ts, cut1, Bool.or_false, Bool.or_true, Bool.and_self, Bool.and_true, Bool.and_false, Bool.false_or, Bool.true_or, and_self, ofs_inj, ofs_app, ofs_len, String.reduceEq, String.reduceNe, String.reduceAppend, decide_true, decide_false, Bool.not_true, Bool.not_false, sz0, sz1, sz2, sz3, sz4, sz5, sz6, sz7, sz8, sz9, sz10, sz11, sz12, sz13, sz14, sz15, sz16, sz17, sz18, sz19, sz20, sz21, sz22, sz23, sz24, sz25, cpow1018, true_and, and_true, Nat.reduceAdd, Nat.reduceLT, Nat.reduceSub, Int.reduceNe, Int.reduceEq, Int.reduceLT, Int.reduceLE, Int.reduceToNat, ne_eq, not_false_eq_true, List.length_map, Nat.lt_irrefl, dV_nx, dV_rt, at0, at1, at2, at3, ix20, ix21, vSeq, vIfS, vTest, vTruth, truth, v2, v1, vN, vCons, vNil, vStar, vVar, vC, xIx, Vl.opI0, Vl.opI, pk, vSet, vAug, vAsg, xgSub, vRet, vRetN, vNext_mk, vDrop, vBreak, vCont, asD, asDs, opMod, opDiv, opMul2, Vl.opAdd, Vl.opAddO, opSub, opPow, opLt, Vl.opLe, opGt, Vl.opGe, xEq, okEq_str, okEq_int, xIn, okIn, inD, xIsN, isNone_n, isNone_t, isNone_l, isNone_i, isNone_s, isMo, mob, pkm, gModI, gDivI, gSubI, gMulI, gPowI, gGt, gLt, gLe, gGe, vNotT, vAndT, vOrT, vAndV, vOrV, opNot, opNotG, vIfE, opTup, opLst, opLstO, Vl.opLen, Vl.opInt, opList, opListO, opTuple, opII, gMax, gMin, vM, vM0, isT, xPop, Vl.opAppend, opExtend, opJoin, vgName, vgTup, vgCons, vgNil, kOpt_some, kOpn_some, kOps_some, Vl.opSum, Vl.opInsert, Vl.opIndex, opDivmod, vSl, vPart, vNoPart, opSl, opSlO, opRev, opCallK, ownD, ownO, objs, renum, uniq, getS, putS, vCall0, vFor, vForW, En.wk, vSeqI, vTupI, vRng1, vRng2, vRngD, vFn, vCallL, vOdd, vWays, vEnum, vZip, chkOf, vLcK, vYes, finD, finO, En.wipe, wipeE, En.trim, trimS, dropNone, clr_n, clr_v, clr_k, clr_o, wth, Vl.ret, takeS, startV,  List.map_cons, List.map_nil, List.length_cons, List.length_nil, List.cons_append, List.nil_append, List.replicate, List.getElem?_cons_succ, List.getElem?_cons_zero, List.getElem?_nil, List.set_cons_succ, List.set_cons_zero, List.set_nil, List.all_nil, List.all_cons, Bool.true_and, Option.map_some, Option.map_none, if_true, if_false, decide_eq_true_eq, Bool.false_eq_true, List.take_succ_cons, List.take_zero, List.take_nil, List.drop_succ_cons, List.drop_zero, List.drop_nil, reduceIte, reduceCtorEq]
  refine ⟨false, by decide +kernel, ?_⟩
  simp only [flatD, List.any_cons, List.any_nil, eqv_str, eqv_int, eqv_ti, eqv_it, eqv_st, eqv_ts, cut1, Bool.or_false, Bool.or_true, Bool.and_self, Bool.and_true, Bool.and_false, Bool.false_or, Bool.true_or, and_self, ofs_inj, ofs_app, ofs_len, String.reduceEq, String.reduceNe, String.reduceAppend, decide_true, decide_false, Bool.not_true, Bool.not_false, sz0, sz1, sz2, sz3, sz4, sz5, sz6, sz7, sz8, sz9, sz10, sz11, sz12, sz13, sz14, sz15, sz16, sz17, sz18, sz19, sz20, sz21, sz22, sz23, sz24, sz25, cpow1018, true_and, and_true, Nat.reduceAdd, Nat.reduceLT, Nat.reduceSub, Int.reduceNe, Int.reduceEq, Int.reduceLT, Int.reduceLE, Int.reduceToNat, ne_eq, not_false_eq_true, List.length_map, Nat.lt_irrefl, dV_nx, dV_rt, at0, at1, at2, at3, ix20, ix21, vSeq, vIfS, vTest, vTruth, truth, v2, v1, vN, vCons, vNil, vStar, vVar, vC, xIx, Vl.opI0, Vl.opI, pk, vSet, vAug, vAsg, xgSub, vRet, vRetN, vNext_mk, vDrop, vBreak, vCont, asD, asDs, opMod, opDiv, opMul2, Vl.opAdd, Vl.opAddO, opSub, opPow, opLt, Vl.opLe, opGt, Vl.opGe, xEq, okEq_str, okEq_int, xIn, okIn, inD, xIsN, isNone_n, isNone_t, isNone_l, isNone_i, isNone_s, isMo, mob, pkm, gModI, gDivI, gSubI, gMulI, gPowI, gGt, gLt, gLe, gGe, vNotT, vAndT, vOrT, vAndV, vOrV, opNot, opNotG, vIfE, opTup, opLst, opLstO, Vl.opLen, Vl.opInt, opList, opListO, opTuple, opII, gMax, gMin, vM, vM0, isT, xPop, Vl.opAppend, opExtend, opJoin, vgName, vgTup, vgCons, vgNil, kOpt_some, kOpn_some, kOps_some, Vl.opSum, Vl.opInsert, Vl.opIndex, opDivmod, vSl, vPart, vNoPart, opSl, opSlO, opRev, opCallK, ownD, ownO, objs, renum, uniq, getS, putS, vCall0, vFor, vForW, En.wk, vSeqI, vTupI, vRng1, vRng2, vRngD, vFn, vCallL, vOdd, vWays, vEnum, vZip, chkOf, vLcK, vYes, finD, finO, En.wipe, wipeE, En.trim, trimS, dropNone, clr_n, clr_v, clr_k, clr_o, wth, Vl.ret, takeS, startV,  List.map_cons, List.map_nil, List.length_cons, List.length_nil, List.cons_append, List.nil_append, List.replicate, List.getElem?_cons_succ, List.getElem?_cons_zero, List.getElem?_nil, List.set_cons_succ, List.set_cons_zero, List.set_nil, List.all_nil, List.all_cons, Bool.true_and, Option.map_some, Option.map_none, if_true, if_false, decide_eq_true_eq, Bool.false_eq_true, List.take_succ_cons, List.take_zero, List.take_nil, List.drop_succ_cons, List.drop_zero, List.drop_nil, reduceIte, reduceCtorEq]
  refine ⟨true, by decide +kernel, ?_⟩
  simp only [flatD, List.any_cons, List.any_nil, eqv_str, eqv_int, eqv_ti, eqv_it, eqv_st, eqv_ts, cut1, Bool.or_false, Bool.or_true, Bool.and_self, Bool.and_true, Bool.and_false, Bool.false_or, Bool.true_or, and_self, ofs_inj, ofs_app, ofs_len, String.reduceEq, String.reduceNe, String.reduceAppend, decide_true, decide_false, Bool.not_true, Bool.not_false, sz0, sz1, sz2, sz3, sz4, sz5, sz6, sz7, sz8, sz9, sz10, sz11, sz12, sz13, sz14, sz15, sz16, sz17, sz18, sz19, sz20, sz21, sz22, sz23, sz24, sz25, cpow1018, true_and, and_true, Nat.reduceAdd, Nat.reduceLT, Nat.reduceSub, Int.reduceNe, Int.reduceEq, Int.reduceLT, Int.reduceLE, Int.reduceToNat, ne_eq, not_false_eq_true, List.length_map, Nat.lt_irrefl, dV_nx, dV_rt, at0, at1, at2, at3, ix20, ix21, vSeq, vIfS, vTest, vTruth, truth, v2, v1, vN, vCons, vNil, vStar, vVar, vC, xIx, Vl.opI0, Vl.opI, pk, vSet, vAug, vAsg, xgSub, vRet, vRetN, vNext_mk, vDrop, vBreak, vCont, asD, asDs, opMod, opDiv, opMul2, Vl.opAdd, Vl.opAddO, opSub, opPow, opLt, Vl.opLe, opGt, Vl.opGe, xEq, okEq_str, okEq_int, xIn, okIn, inD, xIsN, isNone_n, isNone_t, isNone_l, isNone_i, isNone_s, isMo, mob, pkm, gModI, gDivI, gSubI, gMulI, gPowI, gGt, gLt, gLe, gGe, vNotT, vAndT, vOrT, vAndV, vOrV, opNot, opNotG, vIfE, opTup, opLst, opLstO, Vl.opLen, Vl.opInt, opList, opListO, opTuple, opII, gMax, gMin, vM, vM0, isT, xPop, Vl.opAppend, opExtend, opJoin, vgName, vgTup, vgCons, vgNil, kOpt_some, kOpn_some, kOps_some, Vl.opSum, Vl.opInsert, Vl.opIndex, opDivmod, vSl, vPart, vNoPart, opSl, opSlO, opRev, opCallK, ownD, ownO, objs, renum, uniq, getS, putS, vCall0, vFor, vForW, En.wk, vSeqI, vTupI, vRng1, vRng2, vRngD, vFn, vCallL, vOdd, vWays, vEnum, vZip, chkOf, vLcK, vYes, finD, finO, En.wipe, wipeE, En.trim, trimS, dropNone, clr_n, clr_v, clr_k, clr_o, wth, Vl.ret, takeS, startV,  List.map_cons, List.map_nil, List.length_cons, List.length_nil, List.cons_append, List.nil_append, List.replicate, List.getElem?_cons_succ, List.getElem?_cons_zero, List.getElem?_nil, List.set_cons_succ, List.set_cons_zero, List.set_nil, List.all_nil, List.all_cons, Bool.true_and, Option.map_some, Option.map_none, if_true, if_false, decide_eq_true_eq, Bool.false_eq_true, List.take_succ_cons, List.take_zero, List.take_nil, List.drop_succ_cons, List.drop_zero, List.drop_nil, reduceIte, reduceCtorEq]
  refine ⟨false, by decide +kernel, ?_⟩
  simp only [eqv_nil, List.isEmpty_nil, flatD, List.any_cons, List.any_nil, eqv_str, eqv_int, eqv_ti, eqv_it, eqv_st, eqv_ts, cut1, Bool.or_false, Bool.or_true, Bool.and_self, Bool.and_true, Bool.and_false, Bool.false_or, Bool.true_or, and_self, ofs_inj, ofs_app, ofs_len, String.reduceEq, String.reduceNe, String.reduceAppend, decide_true, decide_false, Bool.not_true, Bool.not_false, sz0, sz1, sz2, sz3, sz4, sz5, sz6, sz7, sz8, sz9, sz10, sz11, sz12, sz13, sz14, sz15, sz16, sz17, sz18, sz19, sz20, sz21, sz22, sz23, sz24, sz25, cpow1018, true_and, and_true, Nat.reduceAdd, Nat.reduceLT, Nat.reduceSub, Int.reduceNe, Int.reduceEq, Int.reduceLT, Int.reduceLE, Int.reduceToNat, ne_eq, not_false_eq_true, List.length_map, Nat.lt_irrefl, dV_nx, dV_rt, at0, at1, at2, at3, ix20, ix21, vSeq, vIfS, vTest, vTruth, truth, v2, v1, vN, vCons, vNil, vStar, vVar, vC, xIx, Vl.opI0, Vl.opI, pk, vSet, vAug, vAsg, xgSub, vRet, vRetN, vNext_mk, vDrop, vBreak, vCont, asD, asDs, opMod, opDiv, opMul2, Vl.opAdd, Vl.opAddO, opSub, opPow, opLt, Vl.opLe, opGt, Vl.opGe, xEq, okEq_str, okEq_int, xIn, okIn, inD, xIsN, isNone_n, isNone_t, isNone_l, isNone_i, isNone_s, isMo, mob, pkm, gModI, gDivI, gSubI, gMulI, gPowI, gGt, gLt, gLe, gGe, vNotT, vAndT, vOrT, vAndV, vOrV, opNot, opNotG, vIfE, opTup, opLst, opLstO, Vl.opLen, Vl.opInt, opList, opListO, opTuple, opII, gMax, gMin, vM, vM0, isT, xPop, Vl.opAppend, opExtend, opJoin, vgName, vgTup, vgCons, vgNil, kOpt_some, kOpn_some, kOps_some, Vl.opSum, Vl.opInsert, Vl.opIndex, opDivmod, vSl, vPart, vNoPart, opSl, opSlO, opRev, opCallK, ownD, ownO, objs, renum, uniq, getS, putS, vCall0, vFor, vForW, En.wk, vSeqI, vTupI, vRng1, vRng2, vRngD, vFn, vCallL, vOdd, vWays, vEnum, vZip, chkOf, vLcK, vYes, finD, finO, En.wipe, wipeE, En.trim, trimS, dropNone, clr_n, clr_v, clr_k, clr_o, wth, Vl.ret, takeS, startV,  List.map_cons, List.map_nil, List.length_cons, List.length_nil, List.cons_append, List.nil_append, List.replicate, List.getElem?_cons_succ, List.getElem?_cons_zero, List.getElem?_nil, List.set_cons_succ, List.set_cons_zero, List.set_nil, List.all_nil, List.all_cons, Bool.true_and, Option.map_some, Option.map_none, if_true, if_false, decide_eq_true_eq, Bool.false_eq_true, List.take_succ_cons, List.take_zero, List.take_nil, List.drop_succ_cons, List.drop_zero, List.drop_nil, reduceIte, reduceCtorEq]
  exact ⟨okEq_of (by decide +kernel) (by decide +kernel), hk _ 3 [7, 12] (Nat.le_refl _) rfl⟩
theorem law_many {f : Ct} {kd : List (Ky × D)} (hd : MR kd f) (od : Obj) (vs : List (L2.Key × V)) (d1 d2 d3 d5 d8 : D) (s9 : List (Option Sl)) (ns po : List D) (kf : List (Ky × D)) {Kq : List D → En → Prop}
    (q : ∀ acc : List D, Once f acc.isEmpty → (∃ l : List Str, acc = l.map .str ∧ (∀ x ∈ l, PyData.strOk x = true)) → Kq acc ⟨[some (.kn ns), some (.val d1), some (.val d2), some (.val d3), some (.obj 1), some (.val d5), some (.obj 2), none, some (.val d8), none, none, none, none], [some (.l po), some (.lk od vs kd), some (.m kf)]⟩)
    (hl : kd.length ≤ 1000) (ok : ∀ x, f x ≠ (0, 0) → PyData.strOk x = true) :
    cl (vgName 7) (vTest (v2 opGt (vN opMaxT (vCons (vDIx (vVar 4) (vVar 7)) vNil)) (vC (.int 1)))) (vVar 7) (some fun e => e.st[1]? = some (some (Ob.lk od vs kd))) [7] 3 (kd.map fun kv => keyD kv.1) []
      ⟨[some (.kn ns), some (.val d1), some (.val d2), some (.val d3), some (.obj 1), some (.val d5), some (.obj 2), none, some (.val d8), none, none, none, none], [some (.l po), some (.lk od vs kd), some (.m kf)]⟩ Kq := by
  refine cl_inv (fun i acc e => e = ⟨[some (.kn ns), some (.val d1), some (.val d2), some (.val d3), some (.obj 1), some (.val d5), some (.obj 2), none, some (.val d8), none, none, none, none], [some (.l po), some (.lk od vs kd), some (.m kf)]⟩ ∧ acc.length ≤ i ∧ (∃ l : List Str, acc = l.map .str ∧ (∀ x ∈ l, PyData.strOk x = true)) ∧ (acc.isEmpty = true ↔ ∀ p ∈ kd.take i, ∀ x, p.1 = .inr x → le1 (f x) = true)) (fun i acc e _ h => by obtain ⟨rfl, _⟩ := h; rfl) ?_ ?_ ⟨rfl, Nat.le_refl _, ⟨[], rfl, fun x h => absurd h List.not_mem_nil⟩, ⟨fun _ p hp => by simp at hp, fun _ => rfl⟩⟩
  · rintro i dd acc e Kt hi ⟨rfl, al, ⟨l, rfl, lok⟩, iff⟩ hk
    rw [List.length_map] at al
    have hlt : i < kd.length := by
      have := (List.getElem?_eq_some_iff.mp hi).1
      simpa using this
    have hp : kd[i]? = some kd[i] := List.getElem?_eq_getElem hlt
    obtain ⟨x, n, e1, e2, e3, e4⟩ := hd.keys kd[i] (List.getElem_mem hlt)
    obtain ⟨x', e1', _, e3'⟩ := hd.key kd[i] (List.getElem_mem hlt)
    rw [List.getElem?_map, hp] at hi
    have ed : dd = keyD kd[i].1 := (Option.some.inj hi).symm
    rw [e1] at ed e1'
    cases e1'
    subst ed
    have tk : kd.take (i + 1) = kd.take i ++ [kd[i]] := by rw [List.take_add_one, hp] <;> rfl
    simp only [keyD, vDIx, dGetO, dKey, e4, prD, opMaxT, intsD, flatD, List.any_cons, List.any_nil, eqv_str, eqv_int, eqv_ti, eqv_it, eqv_st, eqv_ts, cut1, Bool.or_false, Bool.or_true, Bool.and_self, Bool.and_true, Bool.and_false, Bool.false_or, Bool.true_or, and_self, ofs_inj, ofs_app, ofs_len, String.reduceEq, String.reduceNe, String.reduceAppend, decide_true, decide_false, Bool.not_true, Bool.not_false, sz0, sz1, sz2, sz3, sz4, sz5, sz6, sz7, sz8, sz9, sz10, sz11, sz12, sz13, sz14, sz15, sz16, sz17, sz18, sz19, sz20, sz21, sz22, sz23, sz24, sz25, cpow1018, true_and, and_true, Nat.reduceAdd, Nat.reduceLT, Nat.reduceSub, Int.reduceNe, Int.reduceEq, Int.reduceLT, Int.reduceLE, Int.reduceToNat, ne_eq, not_false_eq_true, List.length_map, Nat.lt_irrefl, dV_nx, dV_rt, at0, at1, at2, at3, ix20, ix21, vSeq, vIfS, vTest, vTruth, truth, v2, v1, vN, vCons, vNil, vStar, vVar, vC, xIx, Vl.opI0, Vl.opI, pk, vSet, vAug, vAsg, xgSub, vRet, vRetN, vNext_mk, vDrop, vBreak, vCont, asD, asDs, opMod, opDiv, opMul2, Vl.opAdd, Vl.opAddO, opSub, opPow, opLt, Vl.opLe, opGt, Vl.opGe, xEq, okEq_str, okEq_int, xIn, okIn, inD, xIsN, isNone_n, isNone_t, isNone_l, isNone_i, isNone_s, isMo, mob, pkm, gModI, gDivI, gSubI, gMulI, gPowI, gGt, gLt, gLe, gGe, vNotT, vAndT, vOrT, vAndV, vOrV, opNot, opNotG, vIfE, opTup, opLst, opLstO, Vl.opLen, Vl.opInt, opList, opListO, opTuple, opII, gMax, gMin, vM, vM0, isT, xPop, Vl.opAppend, opExtend, opJoin, vgName, vgTup, vgCons, vgNil, kOpt_some, kOpn_some, kOps_some, Vl.opSum, Vl.opInsert, Vl.opIndex, opDivmod, vSl, vPart, vNoPart, opSl, opSlO, opRev, opCallK, ownD, ownO, objs, renum, uniq, getS, putS, vCall0, vFor, vForW, En.wk, vSeqI, vTupI, vRng1, vRng2, vRngD, vFn, vCallL, vOdd, vWays, vEnum, vZip, chkOf, vLcK, vYes, finD, finO, En.wipe, wipeE, En.trim, trimS, dropNone, clr_n, clr_v, clr_k, clr_o, wth, Vl.ret, takeS, startV,  List.map_cons, List.map_nil, List.length_cons, List.length_nil, List.cons_append, List.nil_append, List.replicate, List.getElem?_cons_succ, List.getElem?_cons_zero, List.getElem?_nil, List.set_cons_succ, List.set_cons_zero, List.set_nil, List.all_nil, List.all_cons, Bool.true_and, Option.map_some, Option.map_none, if_true, if_false, decide_eq_true_eq, Bool.false_eq_true, List.take_succ_cons, List.take_zero, List.take_nil, List.drop_succ_cons, List.drop_zero, List.drop_nil, reduceIte, reduceCtorEq]
    intro m hm hy
    have e := le1_max hm hy
    rw [e3] at e
    by_cases g : (m : Int) > 1
    · have g1 : (m > 1) ↔ True := ⟨fun _ => trivial, fun _ => g⟩
      rw [decide_eq_false (by omega)] at e
      simp only [g1, flatD, List.any_cons, List.any_nil, eqv_str, eqv_int, eqv_ti, eqv_it, eqv_st, eqv_ts, cut1, Bool.or_false, Bool.or_true, Bool.and_self, Bool.and_true, Bool.and_false, Bool.false_or, Bool.true_or, and_self, ofs_inj, ofs_app, ofs_len, String.reduceEq, String.reduceNe, String.reduceAppend, decide_true, decide_false, Bool.not_true, Bool.not_false, sz0, sz1, sz2, sz3, sz4, sz5, sz6, sz7, sz8, sz9, sz10, sz11, sz12, sz13, sz14, sz15, sz16, sz17, sz18, sz19, sz20, sz21, sz22, sz23, sz24, sz25, cpow1018, true_and, and_true, Nat.reduceAdd, Nat.reduceLT, Nat.reduceSub, Int.reduceNe, Int.reduceEq, Int.reduceLT, Int.reduceLE, Int.reduceToNat, ne_eq, not_false_eq_true, List.length_map, Nat.lt_irrefl, dV_nx, dV_rt, at0, at1, at2, at3, ix20, ix21, vSeq, vIfS, vTest, vTruth, truth, v2, v1, vN, vCons, vNil, vStar, vVar, vC, xIx, Vl.opI0, Vl.opI, pk, vSet, vAug, vAsg, xgSub, vRet, vRetN, vNext_mk, vDrop, vBreak, vCont, asD, asDs, opMod, opDiv, opMul2, Vl.opAdd, Vl.opAddO, opSub, opPow, opLt, Vl.opLe, opGt, Vl.opGe, xEq, okEq_str, okEq_int, xIn, okIn, inD, xIsN, isNone_n, isNone_t, isNone_l, isNone_i, isNone_s, isMo, mob, pkm, gModI, gDivI, gSubI, gMulI, gPowI, gGt, gLt, gLe, gGe, vNotT, vAndT, vOrT, vAndV, vOrV, opNot, opNotG, vIfE, opTup, opLst, opLstO, Vl.opLen, Vl.opInt, opList, opListO, opTuple, opII, gMax, gMin, vM, vM0, isT, xPop, Vl.opAppend, opExtend, opJoin, vgName, vgTup, vgCons, vgNil, kOpt_some, kOpn_some, kOps_some, Vl.opSum, Vl.opInsert, Vl.opIndex, opDivmod, vSl, vPart, vNoPart, opSl, opSlO, opRev, opCallK, ownD, ownO, objs, renum, uniq, getS, putS, vCall0, vFor, vForW, En.wk, vSeqI, vTupI, vRng1, vRng2, vRngD, vFn, vCallL, vOdd, vWays, vEnum, vZip, chkOf, vLcK, vYes, finD, finO, En.wipe, wipeE, En.trim, trimS, dropNone, clr_n, clr_v, clr_k, clr_o, wth, Vl.ret, takeS, startV,  List.map_cons, List.map_nil, List.length_cons, List.length_nil, List.cons_append, List.nil_append, List.replicate, List.getElem?_cons_succ, List.getElem?_cons_zero, List.getElem?_nil, List.set_cons_succ, List.set_cons_zero, List.set_nil, List.all_nil, List.all_cons, Bool.true_and, Option.map_some, Option.map_none, if_true, if_false, decide_eq_true_eq, Bool.false_eq_true, List.take_succ_cons, List.take_zero, List.take_nil, List.drop_succ_cons, List.drop_zero, List.drop_nil, reduceIte, reduceCtorEq]
      refine ⟨bigl (by omega), hk _ _ ⟨rfl, by rw [List.length_append, List.length_map, List.length_singleton]; omega, ⟨l ++ [x], by rw [List.map_append] <;> rfl, fun y hy => ?_⟩, ?_⟩⟩
      · rcases List.mem_append.mp hy with hy | hy
        · exact lok y hy
        · rw [List.mem_singleton.mp hy]
          exact ok x e3'
      · constructor
        · intro z
          simp at z
        · intro z
          have := z kd[i] (by rw [tk]; exact List.mem_append_right _ (List.mem_singleton.mpr rfl)) x e1
          rw [← e] at this
          cases this
    · have g1 : (m > 1) ↔ False := ⟨fun h => g h, fun h => h.elim⟩
      rw [decide_eq_true (by omega)] at e
      simp only [g1, flatD, List.any_cons, List.any_nil, eqv_str, eqv_int, eqv_ti, eqv_it, eqv_st, eqv_ts, cut1, Bool.or_false, Bool.or_true, Bool.and_self, Bool.and_true, Bool.and_false, Bool.false_or, Bool.true_or, and_self, ofs_inj, ofs_app, ofs_len, String.reduceEq, String.reduceNe, String.reduceAppend, decide_true, decide_false, Bool.not_true, Bool.not_false, sz0, sz1, sz2, sz3, sz4, sz5, sz6, sz7, sz8, sz9, sz10, sz11, sz12, sz13, sz14, sz15, sz16, sz17, sz18, sz19, sz20, sz21, sz22, sz23, sz24, sz25, cpow1018, true_and, and_true, Nat.reduceAdd, Nat.reduceLT, Nat.reduceSub, Int.reduceNe, Int.reduceEq, Int.reduceLT, Int.reduceLE, Int.reduceToNat, ne_eq, not_false_eq_true, List.length_map, Nat.lt_irrefl, dV_nx, dV_rt, at0, at1, at2, at3, ix20, ix21, vSeq, vIfS, vTest, vTruth, truth, v2, v1, vN, vCons, vNil, vStar, vVar, vC, xIx, Vl.opI0, Vl.opI, pk, vSet, vAug, vAsg, xgSub, vRet, vRetN, vNext_mk, vDrop, vBreak, vCont, asD, asDs, opMod, opDiv, opMul2, Vl.opAdd, Vl.opAddO, opSub, opPow, opLt, Vl.opLe, opGt, Vl.opGe, xEq, okEq_str, okEq_int, xIn, okIn, inD, xIsN, isNone_n, isNone_t, isNone_l, isNone_i, isNone_s, isMo, mob, pkm, gModI, gDivI, gSubI, gMulI, gPowI, gGt, gLt, gLe, gGe, vNotT, vAndT, vOrT, vAndV, vOrV, opNot, opNotG, vIfE, opTup, opLst, opLstO, Vl.opLen, Vl.opInt, opList, opListO, opTuple, opII, gMax, gMin, vM, vM0, isT, xPop, Vl.opAppend, opExtend, opJoin, vgName, vgTup, vgCons, vgNil, kOpt_some, kOpn_some, kOps_some, Vl.opSum, Vl.opInsert, Vl.opIndex, opDivmod, vSl, vPart, vNoPart, opSl, opSlO, opRev, opCallK, ownD, ownO, objs, renum, uniq, getS, putS, vCall0, vFor, vForW, En.wk, vSeqI, vTupI, vRng1, vRng2, vRngD, vFn, vCallL, vOdd, vWays, vEnum, vZip, chkOf, vLcK, vYes, finD, finO, En.wipe, wipeE, En.trim, trimS, dropNone, clr_n, clr_v, clr_k, clr_o, wth, Vl.ret, takeS, startV,  List.map_cons, List.map_nil, List.length_cons, List.length_nil, List.cons_append, List.nil_append, List.replicate, List.getElem?_cons_succ, List.getElem?_cons_zero, List.getElem?_nil, List.set_cons_succ, List.set_cons_zero, List.set_nil, List.all_nil, List.all_cons, Bool.true_and, Option.map_some, Option.map_none, if_true, if_false, decide_eq_true_eq, Bool.false_eq_true, List.take_succ_cons, List.take_zero, List.take_nil, List.drop_succ_cons, List.drop_zero, List.drop_nil, reduceIte, reduceCtorEq]
      refine hk _ _ ⟨rfl, by rw [List.length_map]; omega, ⟨l, rfl, lok⟩, ?_⟩
      rw [iff, tk]
      constructor
      · intro z p hp y hy
        rcases List.mem_append.mp hp with hp | hp
        · exact z p hp y hy
        · rw [List.mem_singleton.mp hp, e1] at hy
          cases hy
          exact e.symm
      · intro z p hp y hy
        exact z p (List.mem_append_left _ hp) y hy
  · rintro acc e ⟨rfl, al, hl', iff⟩
    refine q acc ?_ hl'
    unfold Once
    rw [iff]
    constructor
    · intro z y
      by_cases c : f y = (0, 0)
      · rw [c]
        exact ⟨Nat.zero_le _, Nat.zero_le _⟩
      · have q := hd.get y
        rw [if_neg c] at q
        have hm := findK_has q
        have := z _ (by rw [List.take_of_length_le (by simp)]; exact hm) y rfl
        unfold le1 at this
        rw [Bool.and_eq_true, decide_eq_true_iff, decide_eq_true_iff] at this
        exact this
    · intro z p hp x hx
      unfold le1
      rw [Bool.and_eq_true, decide_eq_true_iff, decide_eq_true_iff]
      exact z x
theorem Once.eq {f : Ct} {a b : Bool} (h : Once f a) (g : Once f b) : a = b := by
  unfold Once at h g
  rw [Bool.eq_iff_iff, h, g]
theorem strs_shp {l : List Str} (h : ∀ x ∈ l, PyData.strOk x = true) : Vl.shp (.list (l.map .str)) = true := by
  have a : PyData.canLayAll0 (l.map .str) = true ∧ PyData.depthAll (l.map .str) ≤ 110 := by
    induction l with
    | nil => rw [List.map_nil, canAll_nil, depthAll_nil]; exact ⟨rfl, Nat.zero_le _⟩
    | cons x l ih =>
      obtain ⟨i1, i2⟩ := ih fun y hy => h y (List.mem_cons_of_mem _ hy)
      rw [List.map_cons, canAll_cons, depthAll_cons, can_str, h x List.mem_cons_self, depth_str, i1]
      exact ⟨rfl, by omega⟩
  unfold Vl.shp
  rw [can_lst, depth_lst, a.1, decide_eq_true (by omega)] <;> rfl
theorem Kd.add_over {ms : List Str} : ∀ {k : Kd}, k.over ms → ∀ {y : Str}, y ∉ ms → ∀ s, k.add s y = (0, 0)
  | .mark m, h, y, hy, s => by
    have hm : m ∈ ms := h
    have : ¬ y = m := fun e => hy (e ▸ hm)
    simp only [Kd.add, if_neg this]
  | .one, _, _, _, _ => rfl
  | .to a b, h, y, hy, s => by
    simp only [Kd.add, Kd.add_over h.1 hy, Kd.add_over h.2 hy]
  | .both a b, h, y, hy, s => by
    simp only [Kd.add, Kd.add_over h.1 hy, Kd.add_over h.2 hy]
theorem tot_over : ∀ {l : List Sd}, (∀ x ∈ l, okS x) → ∀ {y : Str}, y ∉ m67 → tot l y = (0, 0)
  | [], _, _, _ => rfl
  | x :: l, h, y, hy => by
    simp only [tot, Kd.add_over (h x List.mem_cons_self).1 hy, tot_over (fun z hz => h z (List.mem_cons_of_mem _ hz)) hy]
theorem ct_over {r : List (Str × Kd)} {k : Kd} (h : ∀ x ∈ (k, true) :: rowSd r, okS x) {y : Str} (hy : ctAll r k y ≠ (0, 0)) : y ∈ m67 := by
  by_cases q : y ∈ m67
  · exact q
  · refine absurd ?_ hy
    unfold ctAll
    rw [Kd.add_over (h _ List.mem_cons_self).1 q, tot_over (fun z hz => h z (List.mem_cons_of_mem _ hz)) q] <;> rfl
theorem MR.few {kvs : List (Ky × D)} {f : Ct} (h : MR kvs f) (hf : ∀ y, f y ≠ (0, 0) → y ∈ m67) : kvs.length ≤ 1000 := by
  have := nd_len (b := m67.map Sum.inr) h.nd fun k hk => by
    obtain ⟨p, hp, rfl⟩ := List.mem_map.mp hk
    obtain ⟨x, e1, _, e3⟩ := h.key p hp
    rw [e1]
    exact List.mem_map.mpr ⟨x, hf x e3, rfl⟩
  rw [List.length_map, List.length_map] at this
  have e : m67.length = 3 := rfl
  omega
theorem wholeK_rev (r : List (Str × Kd)) (k : Kd) : r.reverse.foldl (fun a x => Kd.to x.2 a) k = wholeK r k := by
  rw [List.foldl_reverse]
  induction r with
  | nil => rfl
  | cons x r ih => rw [List.foldr_cons, ih]; rfl
theorem r_lawk67 {ss cs Kp} (h : pLaw ss cs Kp) : t_lawk67 pCase pPool pLSides pSides pOnce (dV cs.length Kp) ⟨startV 13 ss, cs.map some⟩ := by
  obtain ⟨ns, rfl, rfl, hl, k0⟩ := h
  simp only [t_lawk67, t_lawk67_22, flatD, List.any_cons, List.any_nil, eqv_str, eqv_int, eqv_ti, eqv_it, eqv_st, eqv_ts, cut1, Bool.or_false, Bool.or_true, Bool.and_self, Bool.and_true, Bool.and_false, Bool.false_or, Bool.true_or, and_self, ofs_inj, ofs_app, ofs_len, String.reduceEq, String.reduceNe, String.reduceAppend, decide_true, decide_false, Bool.not_true, Bool.not_false, sz0, sz1, sz2, sz3, sz4, sz5, sz6, sz7, sz8, sz9, sz10, sz11, sz12, sz13, sz14, sz15, sz16, sz17, sz18, sz19, sz20, sz21, sz22, sz23, sz24, sz25, cpow1018, true_and, and_true, Nat.reduceAdd, Nat.reduceLT, Nat.reduceSub, Int.reduceNe, Int.reduceEq, Int.reduceLT, Int.reduceLE, Int.reduceToNat, ne_eq, not_false_eq_true, List.length_map, Nat.lt_irrefl, dV_nx, dV_rt, at0, at1, at2, at3, ix20, ix21, vSeq, vIfS, vTest, vTruth, truth, v2, v1, vN, vCons, vNil, vStar, vVar, vC, xIx, Vl.opI0, Vl.opI, pk, vSet, vAug, vAsg, xgSub, vRet, vRetN, vNext_mk, vDrop, vBreak, vCont, asD, asDs, opMod, opDiv, opMul2, Vl.opAdd, Vl.opAddO, opSub, opPow, opLt, Vl.opLe, opGt, Vl.opGe, xEq, okEq_str, okEq_int, xIn, okIn, inD, xIsN, isNone_n, isNone_t, isNone_l, isNone_i, isNone_s, isMo, mob, pkm, gModI, gDivI, gSubI, gMulI, gPowI, gGt, gLt, gLe, gGe, vNotT, vAndT, vOrT, vAndV, vOrV, opNot, opNotG, vIfE, opTup, opLst, opLstO, Vl.opLen, Vl.opInt, opList, opListO, opTuple, opII, gMax, gMin, vM, vM0, isT, xPop, Vl.opAppend, opExtend, opJoin, vgName, vgTup, vgCons, vgNil, kOpt_some, kOpn_some, kOps_some, Vl.opSum, Vl.opInsert, Vl.opIndex, opDivmod, vSl, vPart, vNoPart, opSl, opSlO, opRev, opCallK, ownD, ownO, objs, renum, uniq, getS, putS, vCall0, vFor, vForW, En.wk, vSeqI, vTupI, vRng1, vRng2, vRngD, vFn, vCallL, vOdd, vWays, vEnum, vZip, chkOf, vLcK, vYes, finD, finO, En.wipe, wipeE, En.trim, trimS, dropNone, clr_n, clr_v, clr_k, clr_o, wth, Vl.ret, takeS, startV,  List.map_cons, List.map_nil, List.length_cons, List.length_nil, List.cons_append, List.nil_append, List.replicate, List.getElem?_cons_succ, List.getElem?_cons_zero, List.getElem?_nil, List.set_cons_succ, List.set_cons_zero, List.set_nil, List.all_nil, List.all_cons, Bool.true_and, Option.map_some, Option.map_none, if_true, if_false, decide_eq_true_eq, Bool.false_eq_true, List.take_succ_cons, List.take_zero, List.take_nil, List.drop_succ_cons, List.drop_zero, List.drop_nil, reduceIte, reduceCtorEq]
  generalize hN : (if (if (16 : Int) < (ns.length : Nat) then (16 : Int) else (ns.length : Nat)) > 1 then (if (16 : Int) < (ns.length : Nat) then (16 : Int) else (ns.length : Nat)) else 1) = N
  have hN1 : 0 ≤ N ∧ N ≤ 16 := by
    rw [← hN]
    split <;> split <;> omega
  refine ⟨by omega, by omega, ?_⟩
  rw [rng_eq]
  refine fl_invW (chk := none) (fun (i : Nat) => PyData.int (0 + (i : Nat))) _ (fun ys e => e = ⟨[some (.kn (ns.map .int)), none, none, none, none, none, none, none, none, none, none, none, none], []⟩) (fun _ _ _ => trivial) ?_ ?_ rfl
  · rintro ys i zs e Nx hys rfl hk
    have hi : i < N.toNat := List.mem_range.mp (by rw [hys]; simp)
    simp only [t_lawk67_20, pPool, pCase, flatD, List.any_cons, List.any_nil, eqv_str, eqv_int, eqv_ti, eqv_it, eqv_st, eqv_ts, cut1, Bool.or_false, Bool.or_true, Bool.and_self, Bool.and_true, Bool.and_false, Bool.false_or, Bool.true_or, and_self, ofs_inj, ofs_app, ofs_len, String.reduceEq, String.reduceNe, String.reduceAppend, decide_true, decide_false, Bool.not_true, Bool.not_false, sz0, sz1, sz2, sz3, sz4, sz5, sz6, sz7, sz8, sz9, sz10, sz11, sz12, sz13, sz14, sz15, sz16, sz17, sz18, sz19, sz20, sz21, sz22, sz23, sz24, sz25, cpow1018, true_and, and_true, Nat.reduceAdd, Nat.reduceLT, Nat.reduceSub, Int.reduceNe, Int.reduceEq, Int.reduceLT, Int.reduceLE, Int.reduceToNat, ne_eq, not_false_eq_true, List.length_map, Nat.lt_irrefl, dV_nx, dV_rt, at0, at1, at2, at3, ix20, ix21, vSeq, vIfS, vTest, vTruth, truth, v2, v1, vN, vCons, vNil, vStar, vVar, vC, xIx, Vl.opI0, Vl.opI, pk, vSet, vAug, vAsg, xgSub, vRet, vRetN, vNext_mk, vDrop, vBreak, vCont, asD, asDs, opMod, opDiv, opMul2, Vl.opAdd, Vl.opAddO, opSub, opPow, opLt, Vl.opLe, opGt, Vl.opGe, xEq, okEq_str, okEq_int, xIn, okIn, inD, xIsN, isNone_n, isNone_t, isNone_l, isNone_i, isNone_s, isMo, mob, pkm, gModI, gDivI, gSubI, gMulI, gPowI, gGt, gLt, gLe, gGe, vNotT, vAndT, vOrT, vAndV, vOrV, opNot, opNotG, vIfE, opTup, opLst, opLstO, Vl.opLen, Vl.opInt, opList, opListO, opTuple, opII, gMax, gMin, vM, vM0, isT, xPop, Vl.opAppend, opExtend, opJoin, vgName, vgTup, vgCons, vgNil, kOpt_some, kOpn_some, kOps_some, Vl.opSum, Vl.opInsert, Vl.opIndex, opDivmod, vSl, vPart, vNoPart, opSl, opSlO, opRev, opCallK, ownD, ownO, objs, renum, uniq, getS, putS, vCall0, vFor, vForW, En.wk, vSeqI, vTupI, vRng1, vRng2, vRngD, vFn, vCallL, vOdd, vWays, vEnum, vZip, chkOf, vLcK, vYes, finD, finO, En.wipe, wipeE, En.trim, trimS, dropNone, clr_n, clr_v, clr_k, clr_o, wth, Vl.ret, takeS, startV,  List.map_cons, List.map_nil, List.length_cons, List.length_nil, List.cons_append, List.nil_append, List.replicate, List.getElem?_cons_succ, List.getElem?_cons_zero, List.getElem?_nil, List.set_cons_succ, List.set_cons_zero, List.set_nil, List.all_nil, List.all_cons, Bool.true_and, Option.map_some, Option.map_none, if_true, if_false, decide_eq_true_eq, Bool.false_eq_true, List.take_succ_cons, List.take_zero, List.take_nil, List.drop_succ_cons, List.drop_zero, List.drop_nil, reduceIte, reduceCtorEq]
    refine ⟨ns, i, by rw [Int.zero_add], hl, by omega, fun c n pn => ?_⟩
    refine ⟨c, n, rfl, pn, fun r k c' n' cs pn' => ?_⟩
    have few := cs.few
    have okr : ∀ x ∈ r, x.1 ∈ (["f", "g", "h", "i"] : List Str) ∧ okS (x.2, false) := fun x hx => ⟨cs.nm x hx, cs.ok _ (List.mem_cons_of_mem _ (List.mem_map.mpr ⟨x, hx, rfl⟩))⟩
    have shr := row_shp okr
    have hw : mS ((wholeK r k, true) :: rowSd []) ≤ 1000000 := by
      have h1 := wholeK_leaves r k
      have h2 := sumL_le r
      have h3 := cs.len
      have h4 := k.leaves_pos
      simp only [mS] at few
      show (2 * (wholeK r k).leaves - 1) + 0 ≤ 1000000
      omega
    have err : PyData.eqv (.list (r.map encB)) (.list (r.map encB)) = true := PySem.SeqAt.eqv_refl _ (Vl.shp_can shr)
    simp only [t_lawk67_19, pLSides, flatD, List.any_cons, List.any_nil, eqv_str, eqv_int, eqv_ti, eqv_it, eqv_st, eqv_ts, cut1, Bool.or_false, Bool.or_true, Bool.and_self, Bool.and_true, Bool.and_false, Bool.false_or, Bool.true_or, and_self, ofs_inj, ofs_app, ofs_len, String.reduceEq, String.reduceNe, String.reduceAppend, decide_true, decide_false, Bool.not_true, Bool.not_false, sz0, sz1, sz2, sz3, sz4, sz5, sz6, sz7, sz8, sz9, sz10, sz11, sz12, sz13, sz14, sz15, sz16, sz17, sz18, sz19, sz20, sz21, sz22, sz23, sz24, sz25, cpow1018, true_and, and_true, Nat.reduceAdd, Nat.reduceLT, Nat.reduceSub, Int.reduceNe, Int.reduceEq, Int.reduceLT, Int.reduceLE, Int.reduceToNat, ne_eq, not_false_eq_true, List.length_map, Nat.lt_irrefl, dV_nx, dV_rt, at0, at1, at2, at3, ix20, ix21, vSeq, vIfS, vTest, vTruth, truth, v2, v1, vN, vCons, vNil, vStar, vVar, vC, xIx, Vl.opI0, Vl.opI, pk, vSet, vAug, vAsg, xgSub, vRet, vRetN, vNext_mk, vDrop, vBreak, vCont, asD, asDs, opMod, opDiv, opMul2, Vl.opAdd, Vl.opAddO, opSub, opPow, opLt, Vl.opLe, opGt, Vl.opGe, xEq, okEq_str, okEq_int, xIn, okIn, inD, xIsN, isNone_n, isNone_t, isNone_l, isNone_i, isNone_s, isMo, mob, pkm, gModI, gDivI, gSubI, gMulI, gPowI, gGt, gLt, gLe, gGe, vNotT, vAndT, vOrT, vAndV, vOrV, opNot, opNotG, vIfE, opTup, opLst, opLstO, Vl.opLen, Vl.opInt, opList, opListO, opTuple, opII, gMax, gMin, vM, vM0, isT, xPop, Vl.opAppend, opExtend, opJoin, vgName, vgTup, vgCons, vgNil, kOpt_some, kOpn_some, kOps_some, Vl.opSum, Vl.opInsert, Vl.opIndex, opDivmod, vSl, vPart, vNoPart, opSl, opSlO, opRev, opCallK, ownD, ownO, objs, renum, uniq, getS, putS, vCall0, vFor, vForW, En.wk, vSeqI, vTupI, vRng1, vRng2, vRngD, vFn, vCallL, vOdd, vWays, vEnum, vZip, chkOf, vLcK, vYes, finD, finO, En.wipe, wipeE, En.trim, trimS, dropNone, clr_n, clr_v, clr_k, clr_o, wth, Vl.ret, takeS, startV,  List.map_cons, List.map_nil, List.length_cons, List.length_nil, List.cons_append, List.nil_append, List.replicate, List.getElem?_cons_succ, List.getElem?_cons_zero, List.getElem?_nil, List.set_cons_succ, List.set_cons_zero, List.set_nil, List.all_nil, List.all_cons, Bool.true_and, Option.map_some, Option.map_none, if_true, if_false, decide_eq_true_eq, Bool.false_eq_true, List.take_succ_cons, List.take_zero, List.take_nil, List.drop_succ_cons, List.drop_zero, List.drop_nil, reduceIte, reduceCtorEq]
    refine ⟨r, k, rfl, by omega, cs.ok, fun kd hd => ?_⟩
    simp only [t_lawk67_18, flatD, List.any_cons, List.any_nil, eqv_str, eqv_int, eqv_ti, eqv_it, eqv_st, eqv_ts, cut1, Bool.or_false, Bool.or_true, Bool.and_self, Bool.and_true, Bool.and_false, Bool.false_or, Bool.true_or, and_self, ofs_inj, ofs_app, ofs_len, String.reduceEq, String.reduceNe, String.reduceAppend, decide_true, decide_false, Bool.not_true, Bool.not_false, sz0, sz1, sz2, sz3, sz4, sz5, sz6, sz7, sz8, sz9, sz10, sz11, sz12, sz13, sz14, sz15, sz16, sz17, sz18, sz19, sz20, sz21, sz22, sz23, sz24, sz25, cpow1018, true_and, and_true, Nat.reduceAdd, Nat.reduceLT, Nat.reduceSub, Int.reduceNe, Int.reduceEq, Int.reduceLT, Int.reduceLE, Int.reduceToNat, ne_eq, not_false_eq_true, List.length_map, Nat.lt_irrefl, dV_nx, dV_rt, at0, at1, at2, at3, ix20, ix21, vSeq, vIfS, vTest, vTruth, truth, v2, v1, vN, vCons, vNil, vStar, vVar, vC, xIx, Vl.opI0, Vl.opI, pk, vSet, vAug, vAsg, xgSub, vRet, vRetN, vNext_mk, vDrop, vBreak, vCont, asD, asDs, opMod, opDiv, opMul2, Vl.opAdd, Vl.opAddO, opSub, opPow, opLt, Vl.opLe, opGt, Vl.opGe, xEq, okEq_str, okEq_int, xIn, okIn, inD, xIsN, isNone_n, isNone_t, isNone_l, isNone_i, isNone_s, isMo, mob, pkm, gModI, gDivI, gSubI, gMulI, gPowI, gGt, gLt, gLe, gGe, vNotT, vAndT, vOrT, vAndV, vOrV, opNot, opNotG, vIfE, opTup, opLst, opLstO, Vl.opLen, Vl.opInt, opList, opListO, opTuple, opII, gMax, gMin, vM, vM0, isT, xPop, Vl.opAppend, opExtend, opJoin, vgName, vgTup, vgCons, vgNil, kOpt_some, kOpn_some, kOps_some, Vl.opSum, Vl.opInsert, Vl.opIndex, opDivmod, vSl, vPart, vNoPart, opSl, opSlO, opRev, opCallK, ownD, ownO, objs, renum, uniq, getS, putS, vCall0, vFor, vForW, En.wk, vSeqI, vTupI, vRng1, vRng2, vRngD, vFn, vCallL, vOdd, vWays, vEnum, vZip, chkOf, vLcK, vYes, finD, finO, En.wipe, wipeE, En.trim, trimS, dropNone, clr_n, clr_v, clr_k, clr_o, wth, Vl.ret, takeS, startV,  List.map_cons, List.map_nil, List.length_cons, List.length_nil, List.cons_append, List.nil_append, List.replicate, List.getElem?_cons_succ, List.getElem?_cons_zero, List.getElem?_nil, List.set_cons_succ, List.set_cons_zero, List.set_nil, List.all_nil, List.all_cons, Bool.true_and, Option.map_some, Option.map_none, if_true, if_false, decide_eq_true_eq, Bool.false_eq_true, List.take_succ_cons, List.take_zero, List.take_nil, List.drop_succ_cons, List.drop_zero, List.drop_nil, reduceIte, reduceCtorEq]
    simp only [t_lawk67_17, pSides, flatD, List.any_cons, List.any_nil, eqv_str, eqv_int, eqv_ti, eqv_it, eqv_st, eqv_ts, cut1, Bool.or_false, Bool.or_true, Bool.and_self, Bool.and_true, Bool.and_false, Bool.false_or, Bool.true_or, and_self, ofs_inj, ofs_app, ofs_len, String.reduceEq, String.reduceNe, String.reduceAppend, decide_true, decide_false, Bool.not_true, Bool.not_false, sz0, sz1, sz2, sz3, sz4, sz5, sz6, sz7, sz8, sz9, sz10, sz11, sz12, sz13, sz14, sz15, sz16, sz17, sz18, sz19, sz20, sz21, sz22, sz23, sz24, sz25, cpow1018, true_and, and_true, Nat.reduceAdd, Nat.reduceLT, Nat.reduceSub, Int.reduceNe, Int.reduceEq, Int.reduceLT, Int.reduceLE, Int.reduceToNat, ne_eq, not_false_eq_true, List.length_map, Nat.lt_irrefl, dV_nx, dV_rt, at0, at1, at2, at3, ix20, ix21, vSeq, vIfS, vTest, vTruth, truth, v2, v1, vN, vCons, vNil, vStar, vVar, vC, xIx, Vl.opI0, Vl.opI, pk, vSet, vAug, vAsg, xgSub, vRet, vRetN, vNext_mk, vDrop, vBreak, vCont, asD, asDs, opMod, opDiv, opMul2, Vl.opAdd, Vl.opAddO, opSub, opPow, opLt, Vl.opLe, opGt, Vl.opGe, xEq, okEq_str, okEq_int, xIn, okIn, inD, xIsN, isNone_n, isNone_t, isNone_l, isNone_i, isNone_s, isMo, mob, pkm, gModI, gDivI, gSubI, gMulI, gPowI, gGt, gLt, gLe, gGe, vNotT, vAndT, vOrT, vAndV, vOrV, opNot, opNotG, vIfE, opTup, opLst, opLstO, Vl.opLen, Vl.opInt, opList, opListO, opTuple, opII, gMax, gMin, vM, vM0, isT, xPop, Vl.opAppend, opExtend, opJoin, vgName, vgTup, vgCons, vgNil, kOpt_some, kOpn_some, kOps_some, Vl.opSum, Vl.opInsert, Vl.opIndex, opDivmod, vSl, vPart, vNoPart, opSl, opSlO, opRev, opCallK, ownD, ownO, objs, renum, uniq, getS, putS, vCall0, vFor, vForW, En.wk, vSeqI, vTupI, vRng1, vRng2, vRngD, vFn, vCallL, vOdd, vWays, vEnum, vZip, chkOf, vLcK, vYes, finD, finO, En.wipe, wipeE, En.trim, trimS, dropNone, clr_n, clr_v, clr_k, clr_o, wth, Vl.ret, takeS, startV,  List.map_cons, List.map_nil, List.length_cons, List.length_nil, List.cons_append, List.nil_append, List.replicate, List.getElem?_cons_succ, List.getElem?_cons_zero, List.getElem?_nil, List.set_cons_succ, List.set_cons_zero, List.set_nil, List.all_nil, List.all_cons, Bool.true_and, Option.map_some, Option.map_none, if_true, if_false, decide_eq_true_eq, Bool.false_eq_true, List.take_succ_cons, List.take_zero, List.take_nil, List.drop_succ_cons, List.drop_zero, List.drop_nil, reduceIte, reduceCtorEq]
    refine ⟨r, k, rfl, by omega, fun kf hf => ?_⟩
    simp only [t_lawk67_16, vIsM, opNeM, hf.eq hd, flatD, List.any_cons, List.any_nil, eqv_str, eqv_int, eqv_ti, eqv_it, eqv_st, eqv_ts, cut1, Bool.or_false, Bool.or_true, Bool.and_self, Bool.and_true, Bool.and_false, Bool.false_or, Bool.true_or, and_self, ofs_inj, ofs_app, ofs_len, String.reduceEq, String.reduceNe, String.reduceAppend, decide_true, decide_false, Bool.not_true, Bool.not_false, sz0, sz1, sz2, sz3, sz4, sz5, sz6, sz7, sz8, sz9, sz10, sz11, sz12, sz13, sz14, sz15, sz16, sz17, sz18, sz19, sz20, sz21, sz22, sz23, sz24, sz25, cpow1018, true_and, and_true, Nat.reduceAdd, Nat.reduceLT, Nat.reduceSub, Int.reduceNe, Int.reduceEq, Int.reduceLT, Int.reduceLE, Int.reduceToNat, ne_eq, not_false_eq_true, List.length_map, Nat.lt_irrefl, dV_nx, dV_rt, at0, at1, at2, at3, ix20, ix21, vSeq, vIfS, vTest, vTruth, truth, v2, v1, vN, vCons, vNil, vStar, vVar, vC, xIx, Vl.opI0, Vl.opI, pk, vSet, vAug, vAsg, xgSub, vRet, vRetN, vNext_mk, vDrop, vBreak, vCont, asD, asDs, opMod, opDiv, opMul2, Vl.opAdd, Vl.opAddO, opSub, opPow, opLt, Vl.opLe, opGt, Vl.opGe, xEq, okEq_str, okEq_int, xIn, okIn, inD, xIsN, isNone_n, isNone_t, isNone_l, isNone_i, isNone_s, isMo, mob, pkm, gModI, gDivI, gSubI, gMulI, gPowI, gGt, gLt, gLe, gGe, vNotT, vAndT, vOrT, vAndV, vOrV, opNot, opNotG, vIfE, opTup, opLst, opLstO, Vl.opLen, Vl.opInt, opList, opListO, opTuple, opII, gMax, gMin, vM, vM0, isT, xPop, Vl.opAppend, opExtend, opJoin, vgName, vgTup, vgCons, vgNil, kOpt_some, kOpn_some, kOps_some, Vl.opSum, Vl.opInsert, Vl.opIndex, opDivmod, vSl, vPart, vNoPart, opSl, opSlO, opRev, opCallK, ownD, ownO, objs, renum, uniq, getS, putS, vCall0, vFor, vForW, En.wk, vSeqI, vTupI, vRng1, vRng2, vRngD, vFn, vCallL, vOdd, vWays, vEnum, vZip, chkOf, vLcK, vYes, finD, finO, En.wipe, wipeE, En.trim, trimS, dropNone, clr_n, clr_v, clr_k, clr_o, wth, Vl.ret, takeS, startV,  List.map_cons, List.map_nil, List.length_cons, List.length_nil, List.cons_append, List.nil_append, List.replicate, List.getElem?_cons_succ, List.getElem?_cons_zero, List.getElem?_nil, List.set_cons_succ, List.set_cons_zero, List.set_nil, List.all_nil, List.all_cons, Bool.true_and, Option.map_some, Option.map_none, if_true, if_false, decide_eq_true_eq, Bool.false_eq_true, List.take_succ_cons, List.take_zero, List.take_nil, List.drop_succ_cons, List.drop_zero, List.drop_nil, reduceIte, reduceCtorEq]
    refine ⟨true, by decide +kernel, ?_⟩
    simp only [flatD, List.any_cons, List.any_nil, eqv_str, eqv_int, eqv_ti, eqv_it, eqv_st, eqv_ts, cut1, Bool.or_false, Bool.or_true, Bool.and_self, Bool.and_true, Bool.and_false, Bool.false_or, Bool.true_or, and_self, ofs_inj, ofs_app, ofs_len, String.reduceEq, String.reduceNe, String.reduceAppend, decide_true, decide_false, Bool.not_true, Bool.not_false, sz0, sz1, sz2, sz3, sz4, sz5, sz6, sz7, sz8, sz9, sz10, sz11, sz12, sz13, sz14, sz15, sz16, sz17, sz18, sz19, sz20, sz21, sz22, sz23, sz24, sz25, cpow1018, true_and, and_true, Nat.reduceAdd, Nat.reduceLT, Nat.reduceSub, Int.reduceNe, Int.reduceEq, Int.reduceLT, Int.reduceLE, Int.reduceToNat, ne_eq, not_false_eq_true, List.length_map, Nat.lt_irrefl, dV_nx, dV_rt, at0, at1, at2, at3, ix20, ix21, vSeq, vIfS, vTest, vTruth, truth, v2, v1, vN, vCons, vNil, vStar, vVar, vC, xIx, Vl.opI0, Vl.opI, pk, vSet, vAug, vAsg, xgSub, vRet, vRetN, vNext_mk, vDrop, vBreak, vCont, asD, asDs, opMod, opDiv, opMul2, Vl.opAdd, Vl.opAddO, opSub, opPow, opLt, Vl.opLe, opGt, Vl.opGe, xEq, okEq_str, okEq_int, xIn, okIn, inD, xIsN, isNone_n, isNone_t, isNone_l, isNone_i, isNone_s, isMo, mob, pkm, gModI, gDivI, gSubI, gMulI, gPowI, gGt, gLt, gLe, gGe, vNotT, vAndT, vOrT, vAndV, vOrV, opNot, opNotG, vIfE, opTup, opLst, opLstO, Vl.opLen, Vl.opInt, opList, opListO, opTuple, opII, gMax, gMin, vM, vM0, isT, xPop, Vl.opAppend, opExtend, opJoin, vgName, vgTup, vgCons, vgNil, kOpt_some, kOpn_some, kOps_some, Vl.opSum, Vl.opInsert, Vl.opIndex, opDivmod, vSl, vPart, vNoPart, opSl, opSlO, opRev, opCallK, ownD, ownO, objs, renum, uniq, getS, putS, vCall0, vFor, vForW, En.wk, vSeqI, vTupI, vRng1, vRng2, vRngD, vFn, vCallL, vOdd, vWays, vEnum, vZip, chkOf, vLcK, vYes, finD, finO, En.wipe, wipeE, En.trim, trimS, dropNone, clr_n, clr_v, clr_k, clr_o, wth, Vl.ret, takeS, startV,  List.map_cons, List.map_nil, List.length_cons, List.length_nil, List.cons_append, List.nil_append, List.replicate, List.getElem?_cons_succ, List.getElem?_cons_zero, List.getElem?_nil, List.set_cons_succ, List.set_cons_zero, List.set_nil, List.all_nil, List.all_cons, Bool.true_and, Option.map_some, Option.map_none, if_true, if_false, decide_eq_true_eq, Bool.false_eq_true, List.take_succ_cons, List.take_zero, List.take_nil, List.drop_succ_cons, List.drop_zero, List.drop_nil, reduceIte, reduceCtorEq]
    refine ⟨hf.shp, hd.shp, ?_⟩
    simp only [t_lawk67_15, vLockS, vKeysL, flatD, List.any_cons, List.any_nil, eqv_str, eqv_int, eqv_ti, eqv_it, eqv_st, eqv_ts, cut1, Bool.or_false, Bool.or_true, Bool.and_self, Bool.and_true, Bool.and_false, Bool.false_or, Bool.true_or, and_self, ofs_inj, ofs_app, ofs_len, String.reduceEq, String.reduceNe, String.reduceAppend, decide_true, decide_false, Bool.not_true, Bool.not_false, sz0, sz1, sz2, sz3, sz4, sz5, sz6, sz7, sz8, sz9, sz10, sz11, sz12, sz13, sz14, sz15, sz16, sz17, sz18, sz19, sz20, sz21, sz22, sz23, sz24, sz25, cpow1018, true_and, and_true, Nat.reduceAdd, Nat.reduceLT, Nat.reduceSub, Int.reduceNe, Int.reduceEq, Int.reduceLT, Int.reduceLE, Int.reduceToNat, ne_eq, not_false_eq_true, List.length_map, Nat.lt_irrefl, dV_nx, dV_rt, at0, at1, at2, at3, ix20, ix21, vSeq, vIfS, vTest, vTruth, truth, v2, v1, vN, vCons, vNil, vStar, vVar, vC, xIx, Vl.opI0, Vl.opI, pk, vSet, vAug, vAsg, xgSub, vRet, vRetN, vNext_mk, vDrop, vBreak, vCont, asD, asDs, opMod, opDiv, opMul2, Vl.opAdd, Vl.opAddO, opSub, opPow, opLt, Vl.opLe, opGt, Vl.opGe, xEq, okEq_str, okEq_int, xIn, okIn, inD, xIsN, isNone_n, isNone_t, isNone_l, isNone_i, isNone_s, isMo, mob, pkm, gModI, gDivI, gSubI, gMulI, gPowI, gGt, gLt, gLe, gGe, vNotT, vAndT, vOrT, vAndV, vOrV, opNot, opNotG, vIfE, opTup, opLst, opLstO, Vl.opLen, Vl.opInt, opList, opListO, opTuple, opII, gMax, gMin, vM, vM0, isT, xPop, Vl.opAppend, opExtend, opJoin, vgName, vgTup, vgCons, vgNil, kOpt_some, kOpn_some, kOps_some, Vl.opSum, Vl.opInsert, Vl.opIndex, opDivmod, vSl, vPart, vNoPart, opSl, opSlO, opRev, opCallK, ownD, ownO, objs, renum, uniq, getS, putS, vCall0, vFor, vForW, En.wk, vSeqI, vTupI, vRng1, vRng2, vRngD, vFn, vCallL, vOdd, vWays, vEnum, vZip, chkOf, vLcK, vYes, finD, finO, En.wipe, wipeE, En.trim, trimS, dropNone, clr_n, clr_v, clr_k, clr_o, wth, Vl.ret, takeS, startV,  List.map_cons, List.map_nil, List.length_cons, List.length_nil, List.cons_append, List.nil_append, List.replicate, List.getElem?_cons_succ, List.getElem?_cons_zero, List.getElem?_nil, List.set_cons_succ, List.set_cons_zero, List.set_nil, List.all_nil, List.all_cons, Bool.true_and, Option.map_some, Option.map_none, if_true, if_false, decide_eq_true_eq, Bool.false_eq_true, List.take_succ_cons, List.take_zero, List.take_nil, List.drop_succ_cons, List.drop_zero, List.drop_nil, reduceIte, reduceCtorEq]
    intro od vs
    refine law_loop hf od vs .none _ _ _ _ _ _ _ _ _ _ _ ?_
    simp only [flatD, List.any_cons, List.any_nil, eqv_str, eqv_int, eqv_ti, eqv_it, eqv_st, eqv_ts, cut1, Bool.or_false, Bool.or_true, Bool.and_self, Bool.and_true, Bool.and_false, Bool.false_or, Bool.true_or, and_self, ofs_inj, ofs_app, ofs_len, String.reduceEq, String.reduceNe, String.reduceAppend, decide_true, decide_false, Bool.not_true, Bool.not_false, sz0, sz1, sz2, sz3, sz4, sz5, sz6, sz7, sz8, sz9, sz10, sz11, sz12, sz13, sz14, sz15, sz16, sz17, sz18, sz19, sz20, sz21, sz22, sz23, sz24, sz25, cpow1018, true_and, and_true, Nat.reduceAdd, Nat.reduceLT, Nat.reduceSub, Int.reduceNe, Int.reduceEq, Int.reduceLT, Int.reduceLE, Int.reduceToNat, ne_eq, not_false_eq_true, List.length_map, Nat.lt_irrefl, dV_nx, dV_rt, at0, at1, at2, at3, ix20, ix21, vSeq, vIfS, vTest, vTruth, truth, v2, v1, vN, vCons, vNil, vStar, vVar, vC, xIx, Vl.opI0, Vl.opI, pk, vSet, vAug, vAsg, xgSub, vRet, vRetN, vNext_mk, vDrop, vBreak, vCont, asD, asDs, opMod, opDiv, opMul2, Vl.opAdd, Vl.opAddO, opSub, opPow, opLt, Vl.opLe, opGt, Vl.opGe, xEq, okEq_str, okEq_int, xIn, okIn, inD, xIsN, isNone_n, isNone_t, isNone_l, isNone_i, isNone_s, isMo, mob, pkm, gModI, gDivI, gSubI, gMulI, gPowI, gGt, gLt, gLe, gGe, vNotT, vAndT, vOrT, vAndV, vOrV, opNot, opNotG, vIfE, opTup, opLst, opLstO, Vl.opLen, Vl.opInt, opList, opListO, opTuple, opII, gMax, gMin, vM, vM0, isT, xPop, Vl.opAppend, opExtend, opJoin, vgName, vgTup, vgCons, vgNil, kOpt_some, kOpn_some, kOps_some, Vl.opSum, Vl.opInsert, Vl.opIndex, opDivmod, vSl, vPart, vNoPart, opSl, opSlO, opRev, opCallK, ownD, ownO, objs, renum, uniq, getS, putS, vCall0, vFor, vForW, En.wk, vSeqI, vTupI, vRng1, vRng2, vRngD, vFn, vCallL, vOdd, vWays, vEnum, vZip, chkOf, vLcK, vYes, finD, finO, En.wipe, wipeE, En.trim, trimS, dropNone, clr_n, clr_v, clr_k, clr_o, wth, Vl.ret, takeS, startV,  List.map_cons, List.map_nil, List.length_cons, List.length_nil, List.cons_append, List.nil_append, List.replicate, List.getElem?_cons_succ, List.getElem?_cons_zero, List.getElem?_nil, List.set_cons_succ, List.set_cons_zero, List.set_nil, List.all_nil, List.all_cons, Bool.true_and, Option.map_some, Option.map_none, if_true, if_false, decide_eq_true_eq, Bool.false_eq_true, List.take_succ_cons, List.take_zero, List.take_nil, List.drop_succ_cons, List.drop_zero, List.drop_nil, reduceIte, reduceCtorEq]
    simp only [t_lawk67_14, pOnce, flatD, List.any_cons, List.any_nil, eqv_str, eqv_int, eqv_ti, eqv_it, eqv_st, eqv_ts, cut1, Bool.or_false, Bool.or_true, Bool.and_self, Bool.and_true, Bool.and_false, Bool.false_or, Bool.true_or, and_self, ofs_inj, ofs_app, ofs_len, String.reduceEq, String.reduceNe, String.reduceAppend, decide_true, decide_false, Bool.not_true, Bool.not_false, sz0, sz1, sz2, sz3, sz4, sz5, sz6, sz7, sz8, sz9, sz10, sz11, sz12, sz13, sz14, sz15, sz16, sz17, sz18, sz19, sz20, sz21, sz22, sz23, sz24, sz25, cpow1018, true_and, and_true, Nat.reduceAdd, Nat.reduceLT, Nat.reduceSub, Int.reduceNe, Int.reduceEq, Int.reduceLT, Int.reduceLE, Int.reduceToNat, ne_eq, not_false_eq_true, List.length_map, Nat.lt_irrefl, dV_nx, dV_rt, at0, at1, at2, at3, ix20, ix21, vSeq, vIfS, vTest, vTruth, truth, v2, v1, vN, vCons, vNil, vStar, vVar, vC, xIx, Vl.opI0, Vl.opI, pk, vSet, vAug, vAsg, xgSub, vRet, vRetN, vNext_mk, vDrop, vBreak, vCont, asD, asDs, opMod, opDiv, opMul2, Vl.opAdd, Vl.opAddO, opSub, opPow, opLt, Vl.opLe, opGt, Vl.opGe, xEq, okEq_str, okEq_int, xIn, okIn, inD, xIsN, isNone_n, isNone_t, isNone_l, isNone_i, isNone_s, isMo, mob, pkm, gModI, gDivI, gSubI, gMulI, gPowI, gGt, gLt, gLe, gGe, vNotT, vAndT, vOrT, vAndV, vOrV, opNot, opNotG, vIfE, opTup, opLst, opLstO, Vl.opLen, Vl.opInt, opList, opListO, opTuple, opII, gMax, gMin, vM, vM0, isT, xPop, Vl.opAppend, opExtend, opJoin, vgName, vgTup, vgCons, vgNil, kOpt_some, kOpn_some, kOps_some, Vl.opSum, Vl.opInsert, Vl.opIndex, opDivmod, vSl, vPart, vNoPart, opSl, opSlO, opRev, opCallK, ownD, ownO, objs, renum, uniq, getS, putS, vCall0, vFor, vForW, En.wk, vSeqI, vTupI, vRng1, vRng2, vRngD, vFn, vCallL, vOdd, vWays, vEnum, vZip, chkOf, vLcK, vYes, finD, finO, En.wipe, wipeE, En.trim, trimS, dropNone, clr_n, clr_v, clr_k, clr_o, wth, Vl.ret, takeS, startV,  List.map_cons, List.map_nil, List.length_cons, List.length_nil, List.cons_append, List.nil_append, List.replicate, List.getElem?_cons_succ, List.getElem?_cons_zero, List.getElem?_nil, List.set_cons_succ, List.set_cons_zero, List.set_nil, List.all_nil, List.all_cons, Bool.true_and, Option.map_some, Option.map_none, if_true, if_false, decide_eq_true_eq, Bool.false_eq_true, List.take_succ_cons, List.take_zero, List.take_nil, List.drop_succ_cons, List.drop_zero, List.drop_nil, reduceIte, reduceCtorEq]
    refine ⟨r, k, rfl, by omega, fun b hb => ?_⟩
    simp only [t_lawk67_13, err, flatD, List.any_cons, List.any_nil, eqv_str, eqv_int, eqv_ti, eqv_it, eqv_st, eqv_ts, cut1, Bool.or_false, Bool.or_true, Bool.and_self, Bool.and_true, Bool.and_false, Bool.false_or, Bool.true_or, and_self, ofs_inj, ofs_app, ofs_len, String.reduceEq, String.reduceNe, String.reduceAppend, decide_true, decide_false, Bool.not_true, Bool.not_false, sz0, sz1, sz2, sz3, sz4, sz5, sz6, sz7, sz8, sz9, sz10, sz11, sz12, sz13, sz14, sz15, sz16, sz17, sz18, sz19, sz20, sz21, sz22, sz23, sz24, sz25, cpow1018, true_and, and_true, Nat.reduceAdd, Nat.reduceLT, Nat.reduceSub, Int.reduceNe, Int.reduceEq, Int.reduceLT, Int.reduceLE, Int.reduceToNat, ne_eq, not_false_eq_true, List.length_map, Nat.lt_irrefl, dV_nx, dV_rt, at0, at1, at2, at3, ix20, ix21, vSeq, vIfS, vTest, vTruth, truth, v2, v1, vN, vCons, vNil, vStar, vVar, vC, xIx, Vl.opI0, Vl.opI, pk, vSet, vAug, vAsg, xgSub, vRet, vRetN, vNext_mk, vDrop, vBreak, vCont, asD, asDs, opMod, opDiv, opMul2, Vl.opAdd, Vl.opAddO, opSub, opPow, opLt, Vl.opLe, opGt, Vl.opGe, xEq, okEq_str, okEq_int, xIn, okIn, inD, xIsN, isNone_n, isNone_t, isNone_l, isNone_i, isNone_s, isMo, mob, pkm, gModI, gDivI, gSubI, gMulI, gPowI, gGt, gLt, gLe, gGe, vNotT, vAndT, vOrT, vAndV, vOrV, opNot, opNotG, vIfE, opTup, opLst, opLstO, Vl.opLen, Vl.opInt, opList, opListO, opTuple, opII, gMax, gMin, vM, vM0, isT, xPop, Vl.opAppend, opExtend, opJoin, vgName, vgTup, vgCons, vgNil, kOpt_some, kOpn_some, kOps_some, Vl.opSum, Vl.opInsert, Vl.opIndex, opDivmod, vSl, vPart, vNoPart, opSl, opSlO, opRev, opCallK, ownD, ownO, objs, renum, uniq, getS, putS, vCall0, vFor, vForW, En.wk, vSeqI, vTupI, vRng1, vRng2, vRngD, vFn, vCallL, vOdd, vWays, vEnum, vZip, chkOf, vLcK, vYes, finD, finO, En.wipe, wipeE, En.trim, trimS, dropNone, clr_n, clr_v, clr_k, clr_o, wth, Vl.ret, takeS, startV,  List.map_cons, List.map_nil, List.length_cons, List.length_nil, List.cons_append, List.nil_append, List.replicate, List.getElem?_cons_succ, List.getElem?_cons_zero, List.getElem?_nil, List.set_cons_succ, List.set_cons_zero, List.set_nil, List.all_nil, List.all_cons, Bool.true_and, Option.map_some, Option.map_none, if_true, if_false, decide_eq_true_eq, Bool.false_eq_true, List.take_succ_cons, List.take_zero, List.take_nil, List.drop_succ_cons, List.drop_zero, List.drop_nil, reduceIte, reduceCtorEq]
    refine ⟨okEq_of shr shr, ?_⟩
    simp only [t_lawk67_12, vIsi, tyD, flatD, List.any_cons, List.any_nil, eqv_str, eqv_int, eqv_ti, eqv_it, eqv_st, eqv_ts, cut1, Bool.or_false, Bool.or_true, Bool.and_self, Bool.and_true, Bool.and_false, Bool.false_or, Bool.true_or, and_self, ofs_inj, ofs_app, ofs_len, String.reduceEq, String.reduceNe, String.reduceAppend, decide_true, decide_false, Bool.not_true, Bool.not_false, sz0, sz1, sz2, sz3, sz4, sz5, sz6, sz7, sz8, sz9, sz10, sz11, sz12, sz13, sz14, sz15, sz16, sz17, sz18, sz19, sz20, sz21, sz22, sz23, sz24, sz25, cpow1018, true_and, and_true, Nat.reduceAdd, Nat.reduceLT, Nat.reduceSub, Int.reduceNe, Int.reduceEq, Int.reduceLT, Int.reduceLE, Int.reduceToNat, ne_eq, not_false_eq_true, List.length_map, Nat.lt_irrefl, dV_nx, dV_rt, at0, at1, at2, at3, ix20, ix21, vSeq, vIfS, vTest, vTruth, truth, v2, v1, vN, vCons, vNil, vStar, vVar, vC, xIx, Vl.opI0, Vl.opI, pk, vSet, vAug, vAsg, xgSub, vRet, vRetN, vNext_mk, vDrop, vBreak, vCont, asD, asDs, opMod, opDiv, opMul2, Vl.opAdd, Vl.opAddO, opSub, opPow, opLt, Vl.opLe, opGt, Vl.opGe, xEq, okEq_str, okEq_int, xIn, okIn, inD, xIsN, isNone_n, isNone_t, isNone_l, isNone_i, isNone_s, isMo, mob, pkm, gModI, gDivI, gSubI, gMulI, gPowI, gGt, gLt, gLe, gGe, vNotT, vAndT, vOrT, vAndV, vOrV, opNot, opNotG, vIfE, opTup, opLst, opLstO, Vl.opLen, Vl.opInt, opList, opListO, opTuple, opII, gMax, gMin, vM, vM0, isT, xPop, Vl.opAppend, opExtend, opJoin, vgName, vgTup, vgCons, vgNil, kOpt_some, kOpn_some, kOps_some, Vl.opSum, Vl.opInsert, Vl.opIndex, opDivmod, vSl, vPart, vNoPart, opSl, opSlO, opRev, opCallK, ownD, ownO, objs, renum, uniq, getS, putS, vCall0, vFor, vForW, En.wk, vSeqI, vTupI, vRng1, vRng2, vRngD, vFn, vCallL, vOdd, vWays, vEnum, vZip, chkOf, vLcK, vYes, finD, finO, En.wipe, wipeE, En.trim, trimS, dropNone, clr_n, clr_v, clr_k, clr_o, wth, Vl.ret, takeS, startV,  List.map_cons, List.map_nil, List.length_cons, List.length_nil, List.cons_append, List.nil_append, List.replicate, List.getElem?_cons_succ, List.getElem?_cons_zero, List.getElem?_nil, List.set_cons_succ, List.set_cons_zero, List.set_nil, List.all_nil, List.all_cons, Bool.true_and, Option.map_some, Option.map_none, if_true, if_false, decide_eq_true_eq, Bool.false_eq_true, List.take_succ_cons, List.take_zero, List.take_nil, List.drop_succ_cons, List.drop_zero, List.drop_nil, reduceIte, reduceCtorEq]
    refine ⟨true, by decide +kernel, ?_⟩
    simp only [vLockE, vKeysL, flatD, List.any_cons, List.any_nil, eqv_str, eqv_int, eqv_ti, eqv_it, eqv_st, eqv_ts, cut1, Bool.or_false, Bool.or_true, Bool.and_self, Bool.and_true, Bool.and_false, Bool.false_or, Bool.true_or, and_self, ofs_inj, ofs_app, ofs_len, String.reduceEq, String.reduceNe, String.reduceAppend, decide_true, decide_false, Bool.not_true, Bool.not_false, sz0, sz1, sz2, sz3, sz4, sz5, sz6, sz7, sz8, sz9, sz10, sz11, sz12, sz13, sz14, sz15, sz16, sz17, sz18, sz19, sz20, sz21, sz22, sz23, sz24, sz25, cpow1018, true_and, and_true, Nat.reduceAdd, Nat.reduceLT, Nat.reduceSub, Int.reduceNe, Int.reduceEq, Int.reduceLT, Int.reduceLE, Int.reduceToNat, ne_eq, not_false_eq_true, List.length_map, Nat.lt_irrefl, dV_nx, dV_rt, at0, at1, at2, at3, ix20, ix21, vSeq, vIfS, vTest, vTruth, truth, v2, v1, vN, vCons, vNil, vStar, vVar, vC, xIx, Vl.opI0, Vl.opI, pk, vSet, vAug, vAsg, xgSub, vRet, vRetN, vNext_mk, vDrop, vBreak, vCont, asD, asDs, opMod, opDiv, opMul2, Vl.opAdd, Vl.opAddO, opSub, opPow, opLt, Vl.opLe, opGt, Vl.opGe, xEq, okEq_str, okEq_int, xIn, okIn, inD, xIsN, isNone_n, isNone_t, isNone_l, isNone_i, isNone_s, isMo, mob, pkm, gModI, gDivI, gSubI, gMulI, gPowI, gGt, gLt, gLe, gGe, vNotT, vAndT, vOrT, vAndV, vOrV, opNot, opNotG, vIfE, opTup, opLst, opLstO, Vl.opLen, Vl.opInt, opList, opListO, opTuple, opII, gMax, gMin, vM, vM0, isT, xPop, Vl.opAppend, opExtend, opJoin, vgName, vgTup, vgCons, vgNil, kOpt_some, kOpn_some, kOps_some, Vl.opSum, Vl.opInsert, Vl.opIndex, opDivmod, vSl, vPart, vNoPart, opSl, opSlO, opRev, opCallK, ownD, ownO, objs, renum, uniq, getS, putS, vCall0, vFor, vForW, En.wk, vSeqI, vTupI, vRng1, vRng2, vRngD, vFn, vCallL, vOdd, vWays, vEnum, vZip, chkOf, vLcK, vYes, finD, finO, En.wipe, wipeE, En.trim, trimS, dropNone, clr_n, clr_v, clr_k, clr_o, wth, Vl.ret, takeS, startV,  List.map_cons, List.map_nil, List.length_cons, List.length_nil, List.cons_append, List.nil_append, List.replicate, List.getElem?_cons_succ, List.getElem?_cons_zero, List.getElem?_nil, List.set_cons_succ, List.set_cons_zero, List.set_nil, List.all_nil, List.all_cons, Bool.true_and, Option.map_some, Option.map_none, if_true, if_false, decide_eq_true_eq, Bool.false_eq_true, List.take_succ_cons, List.take_zero, List.take_nil, List.drop_succ_cons, List.drop_zero, List.drop_nil, reduceIte, reduceCtorEq]
    intro od2 vs2
    refine law_many hd od2 vs2 _ _ _ _ _ [] _ _ _ (fun acc ha hs => ?_) ?_ ?_
    · obtain ⟨l, rfl, lok⟩ := hs
      have eb := hb.eq ha
      refine ⟨rfl, okEq_of (strs_shp lok) (by decide +kernel), ?_⟩
      rw [eqv_nil, ← eb]
      refine ⟨okEq_of (by cases b <;> decide +kernel) (by cases b <;> decide +kernel), ?_⟩
      have ebb : PyData.eqv (.bool b) (.bool b) = true := by cases b <;> decide +kernel
      simp only [ebb, flatD, List.any_cons, List.any_nil, eqv_str, eqv_int, eqv_ti, eqv_it, eqv_st, eqv_ts, cut1, Bool.or_false, Bool.or_true, Bool.and_self, Bool.and_true, Bool.and_false, Bool.false_or, Bool.true_or, and_self, ofs_inj, ofs_app, ofs_len, String.reduceEq, String.reduceNe, String.reduceAppend, decide_true, decide_false, Bool.not_true, Bool.not_false, sz0, sz1, sz2, sz3, sz4, sz5, sz6, sz7, sz8, sz9, sz10, sz11, sz12, sz13, sz14, sz15, sz16, sz17, sz18, sz19, sz20, sz21, sz22, sz23, sz24, sz25, cpow1018, true_and, and_true, Nat.reduceAdd, Nat.reduceLT, Nat.reduceSub, Int.reduceNe, Int.reduceEq, Int.reduceLT, Int.reduceLE, Int.reduceToNat, ne_eq, not_false_eq_true, List.length_map, Nat.lt_irrefl, dV_nx, dV_rt, at0, at1, at2, at3, ix20, ix21, vSeq, vIfS, vTest, vTruth, truth, v2, v1, vN, vCons, vNil, vStar, vVar, vC, xIx, Vl.opI0, Vl.opI, pk, vSet, vAug, vAsg, xgSub, vRet, vRetN, vNext_mk, vDrop, vBreak, vCont, asD, asDs, opMod, opDiv, opMul2, Vl.opAdd, Vl.opAddO, opSub, opPow, opLt, Vl.opLe, opGt, Vl.opGe, xEq, okEq_str, okEq_int, xIn, okIn, inD, xIsN, isNone_n, isNone_t, isNone_l, isNone_i, isNone_s, isMo, mob, pkm, gModI, gDivI, gSubI, gMulI, gPowI, gGt, gLt, gLe, gGe, vNotT, vAndT, vOrT, vAndV, vOrV, opNot, opNotG, vIfE, opTup, opLst, opLstO, Vl.opLen, Vl.opInt, opList, opListO, opTuple, opII, gMax, gMin, vM, vM0, isT, xPop, Vl.opAppend, opExtend, opJoin, vgName, vgTup, vgCons, vgNil, kOpt_some, kOpn_some, kOps_some, Vl.opSum, Vl.opInsert, Vl.opIndex, opDivmod, vSl, vPart, vNoPart, opSl, opSlO, opRev, opCallK, ownD, ownO, objs, renum, uniq, getS, putS, vCall0, vFor, vForW, En.wk, vSeqI, vTupI, vRng1, vRng2, vRngD, vFn, vCallL, vOdd, vWays, vEnum, vZip, chkOf, vLcK, vYes, finD, finO, En.wipe, wipeE, En.trim, trimS, dropNone, clr_n, clr_v, clr_k, clr_o, wth, Vl.ret, takeS, startV,  List.map_cons, List.map_nil, List.length_cons, List.length_nil, List.cons_append, List.nil_append, List.replicate, List.getElem?_cons_succ, List.getElem?_cons_zero, List.getElem?_nil, List.set_cons_succ, List.set_cons_zero, List.set_nil, List.all_nil, List.all_cons, Bool.true_and, Option.map_some, Option.map_none, if_true, if_false, decide_eq_true_eq, Bool.false_eq_true, List.take_succ_cons, List.take_zero, List.take_nil, List.drop_succ_cons, List.drop_zero, List.drop_nil, reduceIte, reduceCtorEq]
      simp only [t_lawk67_11, vClrM, flatD, List.any_cons, List.any_nil, eqv_str, eqv_int, eqv_ti, eqv_it, eqv_st, eqv_ts, cut1, Bool.or_false, Bool.or_true, Bool.and_self, Bool.and_true, Bool.and_false, Bool.false_or, Bool.true_or, and_self, ofs_inj, ofs_app, ofs_len, String.reduceEq, String.reduceNe, String.reduceAppend, decide_true, decide_false, Bool.not_true, Bool.not_false, sz0, sz1, sz2, sz3, sz4, sz5, sz6, sz7, sz8, sz9, sz10, sz11, sz12, sz13, sz14, sz15, sz16, sz17, sz18, sz19, sz20, sz21, sz22, sz23, sz24, sz25, cpow1018, true_and, and_true, Nat.reduceAdd, Nat.reduceLT, Nat.reduceSub, Int.reduceNe, Int.reduceEq, Int.reduceLT, Int.reduceLE, Int.reduceToNat, ne_eq, not_false_eq_true, List.length_map, Nat.lt_irrefl, dV_nx, dV_rt, at0, at1, at2, at3, ix20, ix21, vSeq, vIfS, vTest, vTruth, truth, v2, v1, vN, vCons, vNil, vStar, vVar, vC, xIx, Vl.opI0, Vl.opI, pk, vSet, vAug, vAsg, xgSub, vRet, vRetN, vNext_mk, vDrop, vBreak, vCont, asD, asDs, opMod, opDiv, opMul2, Vl.opAdd, Vl.opAddO, opSub, opPow, opLt, Vl.opLe, opGt, Vl.opGe, xEq, okEq_str, okEq_int, xIn, okIn, inD, xIsN, isNone_n, isNone_t, isNone_l, isNone_i, isNone_s, isMo, mob, pkm, gModI, gDivI, gSubI, gMulI, gPowI, gGt, gLt, gLe, gGe, vNotT, vAndT, vOrT, vAndV, vOrV, opNot, opNotG, vIfE, opTup, opLst, opLstO, Vl.opLen, Vl.opInt, opList, opListO, opTuple, opII, gMax, gMin, vM, vM0, isT, xPop, Vl.opAppend, opExtend, opJoin, vgName, vgTup, vgCons, vgNil, kOpt_some, kOpn_some, kOps_some, Vl.opSum, Vl.opInsert, Vl.opIndex, opDivmod, vSl, vPart, vNoPart, opSl, opSlO, opRev, opCallK, ownD, ownO, objs, renum, uniq, getS, putS, vCall0, vFor, vForW, En.wk, vSeqI, vTupI, vRng1, vRng2, vRngD, vFn, vCallL, vOdd, vWays, vEnum, vZip, chkOf, vLcK, vYes, finD, finO, En.wipe, wipeE, En.trim, trimS, dropNone, clr_n, clr_v, clr_k, clr_o, wth, Vl.ret, takeS, startV,  List.map_cons, List.map_nil, List.length_cons, List.length_nil, List.cons_append, List.nil_append, List.replicate, List.getElem?_cons_succ, List.getElem?_cons_zero, List.getElem?_nil, List.set_cons_succ, List.set_cons_zero, List.set_nil, List.all_nil, List.all_cons, Bool.true_and, Option.map_some, Option.map_none, if_true, if_false, decide_eq_true_eq, Bool.false_eq_true, List.take_succ_cons, List.take_zero, List.take_nil, List.drop_succ_cons, List.drop_zero, List.drop_nil, reduceIte, reduceCtorEq]
      simp only [t_lawk67_10, flatD, List.any_cons, List.any_nil, eqv_str, eqv_int, eqv_ti, eqv_it, eqv_st, eqv_ts, cut1, Bool.or_false, Bool.or_true, Bool.and_self, Bool.and_true, Bool.and_false, Bool.false_or, Bool.true_or, and_self, ofs_inj, ofs_app, ofs_len, String.reduceEq, String.reduceNe, String.reduceAppend, decide_true, decide_false, Bool.not_true, Bool.not_false, sz0, sz1, sz2, sz3, sz4, sz5, sz6, sz7, sz8, sz9, sz10, sz11, sz12, sz13, sz14, sz15, sz16, sz17, sz18, sz19, sz20, sz21, sz22, sz23, sz24, sz25, cpow1018, true_and, and_true, Nat.reduceAdd, Nat.reduceLT, Nat.reduceSub, Int.reduceNe, Int.reduceEq, Int.reduceLT, Int.reduceLE, Int.reduceToNat, ne_eq, not_false_eq_true, List.length_map, Nat.lt_irrefl, dV_nx, dV_rt, at0, at1, at2, at3, ix20, ix21, vSeq, vIfS, vTest, vTruth, truth, v2, v1, vN, vCons, vNil, vStar, vVar, vC, xIx, Vl.opI0, Vl.opI, pk, vSet, vAug, vAsg, xgSub, vRet, vRetN, vNext_mk, vDrop, vBreak, vCont, asD, asDs, opMod, opDiv, opMul2, Vl.opAdd, Vl.opAddO, opSub, opPow, opLt, Vl.opLe, opGt, Vl.opGe, xEq, okEq_str, okEq_int, xIn, okIn, inD, xIsN, isNone_n, isNone_t, isNone_l, isNone_i, isNone_s, isMo, mob, pkm, gModI, gDivI, gSubI, gMulI, gPowI, gGt, gLt, gLe, gGe, vNotT, vAndT, vOrT, vAndV, vOrV, opNot, opNotG, vIfE, opTup, opLst, opLstO, Vl.opLen, Vl.opInt, opList, opListO, opTuple, opII, gMax, gMin, vM, vM0, isT, xPop, Vl.opAppend, opExtend, opJoin, vgName, vgTup, vgCons, vgNil, kOpt_some, kOpn_some, kOps_some, Vl.opSum, Vl.opInsert, Vl.opIndex, opDivmod, vSl, vPart, vNoPart, opSl, opSlO, opRev, opCallK, ownD, ownO, objs, renum, uniq, getS, putS, vCall0, vFor, vForW, En.wk, vSeqI, vTupI, vRng1, vRng2, vRngD, vFn, vCallL, vOdd, vWays, vEnum, vZip, chkOf, vLcK, vYes, finD, finO, En.wipe, wipeE, En.trim, trimS, dropNone, clr_n, clr_v, clr_k, clr_o, wth, Vl.ret, takeS, startV,  List.map_cons, List.map_nil, List.length_cons, List.length_nil, List.cons_append, List.nil_append, List.replicate, List.getElem?_cons_succ, List.getElem?_cons_zero, List.getElem?_nil, List.set_cons_succ, List.set_cons_zero, List.set_nil, List.all_nil, List.all_cons, Bool.true_and, Option.map_some, Option.map_none, if_true, if_false, decide_eq_true_eq, Bool.false_eq_true, List.take_succ_cons, List.take_zero, List.take_nil, List.drop_succ_cons, List.drop_zero, List.drop_nil, reduceIte, reduceCtorEq]
      simp only [t_lawk67_9, flatD, List.any_cons, List.any_nil, eqv_str, eqv_int, eqv_ti, eqv_it, eqv_st, eqv_ts, cut1, Bool.or_false, Bool.or_true, Bool.and_self, Bool.and_true, Bool.and_false, Bool.false_or, Bool.true_or, and_self, ofs_inj, ofs_app, ofs_len, String.reduceEq, String.reduceNe, String.reduceAppend, decide_true, decide_false, Bool.not_true, Bool.not_false, sz0, sz1, sz2, sz3, sz4, sz5, sz6, sz7, sz8, sz9, sz10, sz11, sz12, sz13, sz14, sz15, sz16, sz17, sz18, sz19, sz20, sz21, sz22, sz23, sz24, sz25, cpow1018, true_and, and_true, Nat.reduceAdd, Nat.reduceLT, Nat.reduceSub, Int.reduceNe, Int.reduceEq, Int.reduceLT, Int.reduceLE, Int.reduceToNat, ne_eq, not_false_eq_true, List.length_map, Nat.lt_irrefl, dV_nx, dV_rt, at0, at1, at2, at3, ix20, ix21, vSeq, vIfS, vTest, vTruth, truth, v2, v1, vN, vCons, vNil, vStar, vVar, vC, xIx, Vl.opI0, Vl.opI, pk, vSet, vAug, vAsg, xgSub, vRet, vRetN, vNext_mk, vDrop, vBreak, vCont, asD, asDs, opMod, opDiv, opMul2, Vl.opAdd, Vl.opAddO, opSub, opPow, opLt, Vl.opLe, opGt, Vl.opGe, xEq, okEq_str, okEq_int, xIn, okIn, inD, xIsN, isNone_n, isNone_t, isNone_l, isNone_i, isNone_s, isMo, mob, pkm, gModI, gDivI, gSubI, gMulI, gPowI, gGt, gLt, gLe, gGe, vNotT, vAndT, vOrT, vAndV, vOrV, opNot, opNotG, vIfE, opTup, opLst, opLstO, Vl.opLen, Vl.opInt, opList, opListO, opTuple, opII, gMax, gMin, vM, vM0, isT, xPop, Vl.opAppend, opExtend, opJoin, vgName, vgTup, vgCons, vgNil, kOpt_some, kOpn_some, kOps_some, Vl.opSum, Vl.opInsert, Vl.opIndex, opDivmod, vSl, vPart, vNoPart, opSl, opSlO, opRev, opCallK, ownD, ownO, objs, renum, uniq, getS, putS, vCall0, vFor, vForW, En.wk, vSeqI, vTupI, vRng1, vRng2, vRngD, vFn, vCallL, vOdd, vWays, vEnum, vZip, chkOf, vLcK, vYes, finD, finO, En.wipe, wipeE, En.trim, trimS, dropNone, clr_n, clr_v, clr_k, clr_o, wth, Vl.ret, takeS, startV,  List.map_cons, List.map_nil, List.length_cons, List.length_nil, List.cons_append, List.nil_append, List.replicate, List.getElem?_cons_succ, List.getElem?_cons_zero, List.getElem?_nil, List.set_cons_succ, List.set_cons_zero, List.set_nil, List.all_nil, List.all_cons, Bool.true_and, Option.map_some, Option.map_none, if_true, if_false, decide_eq_true_eq, Bool.false_eq_true, List.take_succ_cons, List.take_zero, List.take_nil, List.drop_succ_cons, List.drop_zero, List.drop_nil, reduceIte, reduceCtorEq]
      rw [← List.map_reverse]
      refine fl_invW (chk := none) encB r.reverse (fun ys e => e = ⟨[some (.kn (ns.map .int)), some (.val (.int (0 + (i : Nat)))), some (.val (.list (r.map encB))), some (.val k.enc), some (.obj 1), some (.val (.list (r.map encB))), some (.obj 2), none, some (.val (.bool b)), some (.val (ys.foldl (fun a x => Kd.to x.2 a) k).enc), none, none, none], [some (.l [.int c', .int n']), some (.m kd), some (.m [])]⟩) (fun _ _ _ => trivial) ?_ ?_ rfl
      · rintro ys1 x zs1 e1 Nx1 hx rfl hk1
        simp only [encB, t_lawk67_6, flatD, List.any_cons, List.any_nil, eqv_str, eqv_int, eqv_ti, eqv_it, eqv_st, eqv_ts, cut1, Bool.or_false, Bool.or_true, Bool.and_self, Bool.and_true, Bool.and_false, Bool.false_or, Bool.true_or, and_self, ofs_inj, ofs_app, ofs_len, String.reduceEq, String.reduceNe, String.reduceAppend, decide_true, decide_false, Bool.not_true, Bool.not_false, sz0, sz1, sz2, sz3, sz4, sz5, sz6, sz7, sz8, sz9, sz10, sz11, sz12, sz13, sz14, sz15, sz16, sz17, sz18, sz19, sz20, sz21, sz22, sz23, sz24, sz25, cpow1018, true_and, and_true, Nat.reduceAdd, Nat.reduceLT, Nat.reduceSub, Int.reduceNe, Int.reduceEq, Int.reduceLT, Int.reduceLE, Int.reduceToNat, ne_eq, not_false_eq_true, List.length_map, Nat.lt_irrefl, dV_nx, dV_rt, at0, at1, at2, at3, ix20, ix21, vSeq, vIfS, vTest, vTruth, truth, v2, v1, vN, vCons, vNil, vStar, vVar, vC, xIx, Vl.opI0, Vl.opI, pk, vSet, vAug, vAsg, xgSub, vRet, vRetN, vNext_mk, vDrop, vBreak, vCont, asD, asDs, opMod, opDiv, opMul2, Vl.opAdd, Vl.opAddO, opSub, opPow, opLt, Vl.opLe, opGt, Vl.opGe, xEq, okEq_str, okEq_int, xIn, okIn, inD, xIsN, isNone_n, isNone_t, isNone_l, isNone_i, isNone_s, isMo, mob, pkm, gModI, gDivI, gSubI, gMulI, gPowI, gGt, gLt, gLe, gGe, vNotT, vAndT, vOrT, vAndV, vOrV, opNot, opNotG, vIfE, opTup, opLst, opLstO, Vl.opLen, Vl.opInt, opList, opListO, opTuple, opII, gMax, gMin, vM, vM0, isT, xPop, Vl.opAppend, opExtend, opJoin, vgName, vgTup, vgCons, vgNil, kOpt_some, kOpn_some, kOps_some, Vl.opSum, Vl.opInsert, Vl.opIndex, opDivmod, vSl, vPart, vNoPart, opSl, opSlO, opRev, opCallK, ownD, ownO, objs, renum, uniq, getS, putS, vCall0, vFor, vForW, En.wk, vSeqI, vTupI, vRng1, vRng2, vRngD, vFn, vCallL, vOdd, vWays, vEnum, vZip, chkOf, vLcK, vYes, finD, finO, En.wipe, wipeE, En.trim, trimS, dropNone, clr_n, clr_v, clr_k, clr_o, wth, Vl.ret, takeS, startV,  List.map_cons, List.map_nil, List.length_cons, List.length_nil, List.cons_append, List.nil_append, List.replicate, List.getElem?_cons_succ, List.getElem?_cons_zero, List.getElem?_nil, List.set_cons_succ, List.set_cons_zero, List.set_nil, List.all_nil, List.all_cons, Bool.true_and, Option.map_some, Option.map_none, if_true, if_false, decide_eq_true_eq, Bool.false_eq_true, List.take_succ_cons, List.take_zero, List.take_nil, List.drop_succ_cons, List.drop_zero, List.drop_nil, reduceIte, reduceCtorEq]
        refine hk1 _ 3 [10, 11] (Nat.le_refl _) ?_
        rw [List.foldl_append]
        rfl
      · rintro e1 rfl
        rw [wholeK_rev]
        simp only [t_lawk67_8, pSides, pOnce, opNeM, flatD, List.any_cons, List.any_nil, eqv_str, eqv_int, eqv_ti, eqv_it, eqv_st, eqv_ts, cut1, Bool.or_false, Bool.or_true, Bool.and_self, Bool.and_true, Bool.and_false, Bool.false_or, Bool.true_or, and_self, ofs_inj, ofs_app, ofs_len, String.reduceEq, String.reduceNe, String.reduceAppend, decide_true, decide_false, Bool.not_true, Bool.not_false, sz0, sz1, sz2, sz3, sz4, sz5, sz6, sz7, sz8, sz9, sz10, sz11, sz12, sz13, sz14, sz15, sz16, sz17, sz18, sz19, sz20, sz21, sz22, sz23, sz24, sz25, cpow1018, true_and, and_true, Nat.reduceAdd, Nat.reduceLT, Nat.reduceSub, Int.reduceNe, Int.reduceEq, Int.reduceLT, Int.reduceLE, Int.reduceToNat, ne_eq, not_false_eq_true, List.length_map, Nat.lt_irrefl, dV_nx, dV_rt, at0, at1, at2, at3, ix20, ix21, vSeq, vIfS, vTest, vTruth, truth, v2, v1, vN, vCons, vNil, vStar, vVar, vC, xIx, Vl.opI0, Vl.opI, pk, vSet, vAug, vAsg, xgSub, vRet, vRetN, vNext_mk, vDrop, vBreak, vCont, asD, asDs, opMod, opDiv, opMul2, Vl.opAdd, Vl.opAddO, opSub, opPow, opLt, Vl.opLe, opGt, Vl.opGe, xEq, okEq_str, okEq_int, xIn, okIn, inD, xIsN, isNone_n, isNone_t, isNone_l, isNone_i, isNone_s, isMo, mob, pkm, gModI, gDivI, gSubI, gMulI, gPowI, gGt, gLt, gLe, gGe, vNotT, vAndT, vOrT, vAndV, vOrV, opNot, opNotG, vIfE, opTup, opLst, opLstO, Vl.opLen, Vl.opInt, opList, opListO, opTuple, opII, gMax, gMin, vM, vM0, isT, xPop, Vl.opAppend, opExtend, opJoin, vgName, vgTup, vgCons, vgNil, kOpt_some, kOpn_some, kOps_some, Vl.opSum, Vl.opInsert, Vl.opIndex, opDivmod, vSl, vPart, vNoPart, opSl, opSlO, opRev, opCallK, ownD, ownO, objs, renum, uniq, getS, putS, vCall0, vFor, vForW, En.wk, vSeqI, vTupI, vRng1, vRng2, vRngD, vFn, vCallL, vOdd, vWays, vEnum, vZip, chkOf, vLcK, vYes, finD, finO, En.wipe, wipeE, En.trim, trimS, dropNone, clr_n, clr_v, clr_k, clr_o, wth, Vl.ret, takeS, startV,  List.map_cons, List.map_nil, List.length_cons, List.length_nil, List.cons_append, List.nil_append, List.replicate, List.getElem?_cons_succ, List.getElem?_cons_zero, List.getElem?_nil, List.set_cons_succ, List.set_cons_zero, List.set_nil, List.all_nil, List.all_cons, Bool.true_and, Option.map_some, Option.map_none, if_true, if_false, decide_eq_true_eq, Bool.false_eq_true, List.take_succ_cons, List.take_zero, List.take_nil, List.drop_succ_cons, List.drop_zero, List.drop_nil, reduceIte, reduceCtorEq]
        refine ⟨[], wholeK r k, rfl, hw, fun kv1 h1 => ?_⟩
        rw [wholeK_ct] at h1
        refine ⟨h1.shp, hd.shp, ?_⟩
        simp only [h1.eq hd, flatD, List.any_cons, List.any_nil, eqv_str, eqv_int, eqv_ti, eqv_it, eqv_st, eqv_ts, cut1, Bool.or_false, Bool.or_true, Bool.and_self, Bool.and_true, Bool.and_false, Bool.false_or, Bool.true_or, and_self, ofs_inj, ofs_app, ofs_len, String.reduceEq, String.reduceNe, String.reduceAppend, decide_true, decide_false, Bool.not_true, Bool.not_false, sz0, sz1, sz2, sz3, sz4, sz5, sz6, sz7, sz8, sz9, sz10, sz11, sz12, sz13, sz14, sz15, sz16, sz17, sz18, sz19, sz20, sz21, sz22, sz23, sz24, sz25, cpow1018, true_and, and_true, Nat.reduceAdd, Nat.reduceLT, Nat.reduceSub, Int.reduceNe, Int.reduceEq, Int.reduceLT, Int.reduceLE, Int.reduceToNat, ne_eq, not_false_eq_true, List.length_map, Nat.lt_irrefl, dV_nx, dV_rt, at0, at1, at2, at3, ix20, ix21, vSeq, vIfS, vTest, vTruth, truth, v2, v1, vN, vCons, vNil, vStar, vVar, vC, xIx, Vl.opI0, Vl.opI, pk, vSet, vAug, vAsg, xgSub, vRet, vRetN, vNext_mk, vDrop, vBreak, vCont, asD, asDs, opMod, opDiv, opMul2, Vl.opAdd, Vl.opAddO, opSub, opPow, opLt, Vl.opLe, opGt, Vl.opGe, xEq, okEq_str, okEq_int, xIn, okIn, inD, xIsN, isNone_n, isNone_t, isNone_l, isNone_i, isNone_s, isMo, mob, pkm, gModI, gDivI, gSubI, gMulI, gPowI, gGt, gLt, gLe, gGe, vNotT, vAndT, vOrT, vAndV, vOrV, opNot, opNotG, vIfE, opTup, opLst, opLstO, Vl.opLen, Vl.opInt, opList, opListO, opTuple, opII, gMax, gMin, vM, vM0, isT, xPop, Vl.opAppend, opExtend, opJoin, vgName, vgTup, vgCons, vgNil, kOpt_some, kOpn_some, kOps_some, Vl.opSum, Vl.opInsert, Vl.opIndex, opDivmod, vSl, vPart, vNoPart, opSl, opSlO, opRev, opCallK, ownD, ownO, objs, renum, uniq, getS, putS, vCall0, vFor, vForW, En.wk, vSeqI, vTupI, vRng1, vRng2, vRngD, vFn, vCallL, vOdd, vWays, vEnum, vZip, chkOf, vLcK, vYes, finD, finO, En.wipe, wipeE, En.trim, trimS, dropNone, clr_n, clr_v, clr_k, clr_o, wth, Vl.ret, takeS, startV,  List.map_cons, List.map_nil, List.length_cons, List.length_nil, List.cons_append, List.nil_append, List.replicate, List.getElem?_cons_succ, List.getElem?_cons_zero, List.getElem?_nil, List.set_cons_succ, List.set_cons_zero, List.set_nil, List.all_nil, List.all_cons, Bool.true_and, Option.map_some, Option.map_none, if_true, if_false, decide_eq_true_eq, Bool.false_eq_true, List.take_succ_cons, List.take_zero, List.take_nil, List.drop_succ_cons, List.drop_zero, List.drop_nil, reduceIte, reduceCtorEq]
        refine ⟨r, k, rfl, by omega, fun kv2 h2 => ?_⟩
        refine ⟨h2.shp, hd.shp, ?_⟩
        simp only [h2.eq hd, flatD, List.any_cons, List.any_nil, eqv_str, eqv_int, eqv_ti, eqv_it, eqv_st, eqv_ts, cut1, Bool.or_false, Bool.or_true, Bool.and_self, Bool.and_true, Bool.and_false, Bool.false_or, Bool.true_or, and_self, ofs_inj, ofs_app, ofs_len, String.reduceEq, String.reduceNe, String.reduceAppend, decide_true, decide_false, Bool.not_true, Bool.not_false, sz0, sz1, sz2, sz3, sz4, sz5, sz6, sz7, sz8, sz9, sz10, sz11, sz12, sz13, sz14, sz15, sz16, sz17, sz18, sz19, sz20, sz21, sz22, sz23, sz24, sz25, cpow1018, true_and, and_true, Nat.reduceAdd, Nat.reduceLT, Nat.reduceSub, Int.reduceNe, Int.reduceEq, Int.reduceLT, Int.reduceLE, Int.reduceToNat, ne_eq, not_false_eq_true, List.length_map, Nat.lt_irrefl, dV_nx, dV_rt, at0, at1, at2, at3, ix20, ix21, vSeq, vIfS, vTest, vTruth, truth, v2, v1, vN, vCons, vNil, vStar, vVar, vC, xIx, Vl.opI0, Vl.opI, pk, vSet, vAug, vAsg, xgSub, vRet, vRetN, vNext_mk, vDrop, vBreak, vCont, asD, asDs, opMod, opDiv, opMul2, Vl.opAdd, Vl.opAddO, opSub, opPow, opLt, Vl.opLe, opGt, Vl.opGe, xEq, okEq_str, okEq_int, xIn, okIn, inD, xIsN, isNone_n, isNone_t, isNone_l, isNone_i, isNone_s, isMo, mob, pkm, gModI, gDivI, gSubI, gMulI, gPowI, gGt, gLt, gLe, gGe, vNotT, vAndT, vOrT, vAndV, vOrV, opNot, opNotG, vIfE, opTup, opLst, opLstO, Vl.opLen, Vl.opInt, opList, opListO, opTuple, opII, gMax, gMin, vM, vM0, isT, xPop, Vl.opAppend, opExtend, opJoin, vgName, vgTup, vgCons, vgNil, kOpt_some, kOpn_some, kOps_some, Vl.opSum, Vl.opInsert, Vl.opIndex, opDivmod, vSl, vPart, vNoPart, opSl, opSlO, opRev, opCallK, ownD, ownO, objs, renum, uniq, getS, putS, vCall0, vFor, vForW, En.wk, vSeqI, vTupI, vRng1, vRng2, vRngD, vFn, vCallL, vOdd, vWays, vEnum, vZip, chkOf, vLcK, vYes, finD, finO, En.wipe, wipeE, En.trim, trimS, dropNone, clr_n, clr_v, clr_k, clr_o, wth, Vl.ret, takeS, startV,  List.map_cons, List.map_nil, List.length_cons, List.length_nil, List.cons_append, List.nil_append, List.replicate, List.getElem?_cons_succ, List.getElem?_cons_zero, List.getElem?_nil, List.set_cons_succ, List.set_cons_zero, List.set_nil, List.all_nil, List.all_cons, Bool.true_and, Option.map_some, Option.map_none, if_true, if_false, decide_eq_true_eq, Bool.false_eq_true, List.take_succ_cons, List.take_zero, List.take_nil, List.drop_succ_cons, List.drop_zero, List.drop_nil, reduceIte, reduceCtorEq]
        refine ⟨[], wholeK r k, rfl, hw, fun b2 hb2 => ?_⟩
        rw [wholeK_ct] at hb2
        have e2 := hb2.eq hb
        subst e2
        refine ⟨okEq_of (by cases b2 <;> decide +kernel) (by cases b2 <;> decide +kernel), ?_⟩
        simp only [ebb, flatD, List.any_cons, List.any_nil, eqv_str, eqv_int, eqv_ti, eqv_it, eqv_st, eqv_ts, cut1, Bool.or_false, Bool.or_true, Bool.and_self, Bool.and_true, Bool.and_false, Bool.false_or, Bool.true_or, and_self, ofs_inj, ofs_app, ofs_len, String.reduceEq, String.reduceNe, String.reduceAppend, decide_true, decide_false, Bool.not_true, Bool.not_false, sz0, sz1, sz2, sz3, sz4, sz5, sz6, sz7, sz8, sz9, sz10, sz11, sz12, sz13, sz14, sz15, sz16, sz17, sz18, sz19, sz20, sz21, sz22, sz23, sz24, sz25, cpow1018, true_and, and_true, Nat.reduceAdd, Nat.reduceLT, Nat.reduceSub, Int.reduceNe, Int.reduceEq, Int.reduceLT, Int.reduceLE, Int.reduceToNat, ne_eq, not_false_eq_true, List.length_map, Nat.lt_irrefl, dV_nx, dV_rt, at0, at1, at2, at3, ix20, ix21, vSeq, vIfS, vTest, vTruth, truth, v2, v1, vN, vCons, vNil, vStar, vVar, vC, xIx, Vl.opI0, Vl.opI, pk, vSet, vAug, vAsg, xgSub, vRet, vRetN, vNext_mk, vDrop, vBreak, vCont, asD, asDs, opMod, opDiv, opMul2, Vl.opAdd, Vl.opAddO, opSub, opPow, opLt, Vl.opLe, opGt, Vl.opGe, xEq, okEq_str, okEq_int, xIn, okIn, inD, xIsN, isNone_n, isNone_t, isNone_l, isNone_i, isNone_s, isMo, mob, pkm, gModI, gDivI, gSubI, gMulI, gPowI, gGt, gLt, gLe, gGe, vNotT, vAndT, vOrT, vAndV, vOrV, opNot, opNotG, vIfE, opTup, opLst, opLstO, Vl.opLen, Vl.opInt, opList, opListO, opTuple, opII, gMax, gMin, vM, vM0, isT, xPop, Vl.opAppend, opExtend, opJoin, vgName, vgTup, vgCons, vgNil, kOpt_some, kOpn_some, kOps_some, Vl.opSum, Vl.opInsert, Vl.opIndex, opDivmod, vSl, vPart, vNoPart, opSl, opSlO, opRev, opCallK, ownD, ownO, objs, renum, uniq, getS, putS, vCall0, vFor, vForW, En.wk, vSeqI, vTupI, vRng1, vRng2, vRngD, vFn, vCallL, vOdd, vWays, vEnum, vZip, chkOf, vLcK, vYes, finD, finO, En.wipe, wipeE, En.trim, trimS, dropNone, clr_n, clr_v, clr_k, clr_o, wth, Vl.ret, takeS, startV,  List.map_cons, List.map_nil, List.length_cons, List.length_nil, List.cons_append, List.nil_append, List.replicate, List.getElem?_cons_succ, List.getElem?_cons_zero, List.getElem?_nil, List.set_cons_succ, List.set_cons_zero, List.set_nil, List.all_nil, List.all_cons, Bool.true_and, Option.map_some, Option.map_none, if_true, if_false, decide_eq_true_eq, Bool.false_eq_true, List.take_succ_cons, List.take_zero, List.take_nil, List.drop_succ_cons, List.drop_zero, List.drop_nil, reduceIte, reduceCtorEq]
        exact hk _ 0 [1, 2, 3, 4, 5, 6, 8, 9] (Nat.zero_le _) rfl
    · exact hd.few fun y hy => ct_over cs.ok hy
    · exact fun x hx => m67_ok x (ct_over cs.ok hx)
  · rintro e rfl
    simp only [t_lawk67_21, flatD, List.any_cons, List.any_nil, eqv_str, eqv_int, eqv_ti, eqv_it, eqv_st, eqv_ts, cut1, Bool.or_false, Bool.or_true, Bool.and_self, Bool.and_true, Bool.and_false, Bool.false_or, Bool.true_or, and_self, ofs_inj, ofs_app, ofs_len, String.reduceEq, String.reduceNe, String.reduceAppend, decide_true, decide_false, Bool.not_true, Bool.not_false, sz0, sz1, sz2, sz3, sz4, sz5, sz6, sz7, sz8, sz9, sz10, sz11, sz12, sz13, sz14, sz15, sz16, sz17, sz18, sz19, sz20, sz21, sz22, sz23, sz24, sz25, cpow1018, true_and, and_true, Nat.reduceAdd, Nat.reduceLT, Nat.reduceSub, Int.reduceNe, Int.reduceEq, Int.reduceLT, Int.reduceLE, Int.reduceToNat, ne_eq, not_false_eq_true, List.length_map, Nat.lt_irrefl, dV_nx, dV_rt, at0, at1, at2, at3, ix20, ix21, vSeq, vIfS, vTest, vTruth, truth, v2, v1, vN, vCons, vNil, vStar, vVar, vC, xIx, Vl.opI0, Vl.opI, pk, vSet, vAug, vAsg, xgSub, vRet, vRetN, vNext_mk, vDrop, vBreak, vCont, asD, asDs, opMod, opDiv, opMul2, Vl.opAdd, Vl.opAddO, opSub, opPow, opLt, Vl.opLe, opGt, Vl.opGe, xEq, okEq_str, okEq_int, xIn, okIn, inD, xIsN, isNone_n, isNone_t, isNone_l, isNone_i, isNone_s, isMo, mob, pkm, gModI, gDivI, gSubI, gMulI, gPowI, gGt, gLt, gLe, gGe, vNotT, vAndT, vOrT, vAndV, vOrV, opNot, opNotG, vIfE, opTup, opLst, opLstO, Vl.opLen, Vl.opInt, opList, opListO, opTuple, opII, gMax, gMin, vM, vM0, isT, xPop, Vl.opAppend, opExtend, opJoin, vgName, vgTup, vgCons, vgNil, kOpt_some, kOpn_some, kOps_some, Vl.opSum, Vl.opInsert, Vl.opIndex, opDivmod, vSl, vPart, vNoPart, opSl, opSlO, opRev, opCallK, ownD, ownO, objs, renum, uniq, getS, putS, vCall0, vFor, vForW, En.wk, vSeqI, vTupI, vRng1, vRng2, vRngD, vFn, vCallL, vOdd, vWays, vEnum, vZip, chkOf, vLcK, vYes, finD, finO, En.wipe, wipeE, En.trim, trimS, dropNone, clr_n, clr_v, clr_k, clr_o, wth, Vl.ret, takeS, startV,  List.map_cons, List.map_nil, List.length_cons, List.length_nil, List.cons_append, List.nil_append, List.replicate, List.getElem?_cons_succ, List.getElem?_cons_zero, List.getElem?_nil, List.set_cons_succ, List.set_cons_zero, List.set_nil, List.all_nil, List.all_cons, Bool.true_and, Option.map_some, Option.map_none, if_true, if_false, decide_eq_true_eq, Bool.false_eq_true, List.take_succ_cons, List.take_zero, List.take_nil, List.drop_succ_cons, List.drop_zero, List.drop_nil, reduceIte, reduceCtorEq]
    exact k0
end Kf
namespace Kf
open PySem L2 Vl PySem.Spec PyProof.Rows
set_option maxHeartbeats 800000
def top (i : Nat) : Stmt := PySem.Challenge.pw_kindfill_k67_sides.main.body.getD i (.Pass ⟨0, 0, 0, 0⟩)
abbrev sLpool : Stmt := top 6
abbrev nLpool : List Str := ["_law_script", "_law_k", "_law_cell", "_law_number"]
theorem scLpool : FnScope nLpool ["_law_script", "_law_k"] (defScope sLpool) := ⟨rfl, rfl, rfl, by decide +kernel, rfl, by decide +kernel, by decide +kernel⟩
theorem bd_Lpool {P : Program} {w : World} {K : PySem.W.Frag} {mg : Str → Option Value} {base : Heap} {k : Nat} (B : Blt mg) {f : Addr} {cdv : Value} {A : Around} {outer : List Env} {s : Shared} {H : Hp} {E : XK}
    (hr : Room k (A.deeper (envOfC "_law_pool" (defScope sLpool) s.heap.objs.size f cdv))) : VSs (cxOf CX0 P w K mg base nLpool "_law_pool" (defScope sLpool) f cdv A outer s H E).nox (defBody sLpool) (t_Lpool) := by
  have h : VSs (cxOf CX0 P w K mg base nLpool "_law_pool" (defScope sLpool) f cdv A outer s H E).nox (defBody sLpool) (vSeq (vSet 2 (vC (.int 0))) (vSeq (vIfS (vTest (v2 opLt (vVar 1) (vN opLen (vCons (vVar 0) vNil)))) ((vSet 2 (v2 xIx (vVar 0) (vVar 1)))) vNext) (vSeq (vSet 3 (v2 opMod (v2 opPow (v2 opAdd (v2 opAdd (v2 opMod (vVar 2) (vC (.int 2147483629))) (v2 opMul2 (v2 opMul2 (vC (.int 104729)) (vVar 1)) (vVar 1))) (vC (.int 11))) (vC (.int 3))) (vC (.int 2147483647)))) (vSeq (vIfS (vTest (v2 opLt (vVar 2) (v2 opPow (vC (.int 10)) (vC (.int 18))))) ((vSet 2 (vC (.int 0)))) vNext) ((vRet (vN opLstO (vCons (vVar 2) (vCons (vVar 3) vNil))))))))) := (vss_cons (vs_set (i := 2) scLpool.nd rfl (Or.inl rfl) ve_int)
    (vss_cons (vs_if (vt_lt (vp 1) (ve_len rfl B.len (va_cons (vp 0) va_nil))) (vss_one (vs_set (i := 2) scLpool.nd rfl (Or.inl rfl) (ve_xix (vp 0) (vp 1)))) vss_nil)
    (vss_cons (vs_set (i := 3) scLpool.nd rfl (Or.inl rfl) (ve_mod (ve_pow (ve_add (ve_add (ve_mod (vp 2) ve_int) (ve_mul2 (ve_mul2 ve_int (vp 1)) (vp 1))) ve_int) ve_int) ve_int))
    (vss_cons (vs_if (vt_lt (vp 2) (ve_pow ve_int ve_int)) (vss_one (vs_set (i := 2) scLpool.nd rfl (Or.inl rfl) ve_int)) vss_nil)
    (vss_one (vs_ret (ve_lstO (va_cons (vp 2) (va_cons (vp 3) va_nil)))))))))
  exact h
theorem ok_Lpool {P : Program} {w : World} {K : PySem.W.Frag} {mg : Str → Option Value} {base : Heap} {k : Nat} {p : VSp} (Fd : Df K mg "_law_pool" sLpool ["_law_script", "_law_k"]) (B : Blt mg)
    (len : ∀ ss st Kp, p ss st Kp → ss.length = 2) (rd : ∀ ss cs Kp, p ss cs Kp → t_Lpool (dV cs.length Kp) ⟨startV 4 ss, cs.map some⟩) : VFn P w K mg base (k + 1) "_law_pool" ["_law_script", "_law_k"] p :=
  okF Fd scLpool len (fun hr => bd_Lpool B hr) rd
abbrev sLtake : Stmt := top 7
abbrev nLtake : List Str := ["_law_pool_here", "_law_many", "_law_found"]
theorem scLtake : FnScope nLtake ["_law_pool_here", "_law_many"] (defScope sLtake) := ⟨rfl, rfl, rfl, by decide +kernel, rfl, by decide +kernel, by decide +kernel⟩
theorem bd_Ltake {P : Program} {w : World} {K : PySem.W.Frag} {mg : Str → Option Value} {base : Heap} {k : Nat} {f : Addr} {cdv : Value} {A : Around} {outer : List Env} {s : Shared} {H : Hp} {E : XK}
    (hr : Room k (A.deeper (envOfC "_law_take" (defScope sLtake) s.heap.objs.size f cdv))) : VSs (cxOf CX0 P w K mg base nLtake "_law_take" (defScope sLtake) f cdv A outer s H E).nox (defBody sLtake) (t_Ltake) := by
  have h : VSs (cxOf CX0 P w K mg base nLtake "_law_take" (defScope sLtake) f cdv A outer s H E).nox (defBody sLtake) (vSeq (vIfS (vTest (v2 opGt (v2 xIx (vVar 0) (vC (.int 0))) (vC (.int 0)))) (vSeq (vSet 2 (v2 opMod (v2 xIx (vVar 0) (vC (.int 0))) (vVar 1))) (vSeq (vAsg (v2 opDiv (v2 xIx (vVar 0) (vC (.int 0))) (vVar 1)) (xgSub (vVar 0) (vC (.int 0)))) ((vRet (vVar 2))))) vNext) (vSeq (vAsg (v2 opMod (v2 opAdd (v2 opMul2 (v2 xIx (vVar 0) (vC (.int 1))) (vC (.int 48271))) (vC (.int 11))) (vC (.int 2147483647))) (xgSub (vVar 0) (vC (.int 1)))) ((vRet (v2 opMod (v2 opDiv (v2 opMod (v2 opMul2 (v2 xIx (vVar 0) (vC (.int 1))) (v2 xIx (vVar 0) (vC (.int 1)))) (vC (.int 2147483629))) (vC (.int 64))) (vVar 1)))))) := (vss_cons (vs_if (vt_gt (ve_xix (vp 0) ve_int) ve_int) (vss_cons (vs_set (i := 2) scLtake.nd rfl (Or.inl rfl) (ve_mod (ve_xix (vp 0) ve_int) (vp 1)))
      (vss_cons (vs_asg (ve_div (ve_xix (vp 0) ve_int) (vp 1)) (vg_xsub (mono_var 0) (mono_c _) (vp 0) ve_int (fun a b => pg_sub a b set_list)))
      (vss_one (vs_ret (vp 2))))) vss_nil)
    (vss_cons (vs_asg (ve_mod (ve_add (ve_mul2 (ve_xix (vp 0) ve_int) ve_int) ve_int) ve_int) (vg_xsub (mono_var 0) (mono_c _) (vp 0) ve_int (fun a b => pg_sub a b set_list)))
    (vss_one (vs_ret (ve_mod (ve_div (ve_mod (ve_mul2 (ve_xix (vp 0) ve_int) (ve_xix (vp 0) ve_int)) ve_int) ve_int) (vp 1))))))
  exact h
theorem ok_Ltake {P : Program} {w : World} {K : PySem.W.Frag} {mg : Str → Option Value} {base : Heap} {k : Nat} {p : VSp} (Fd : Df K mg "_law_take" sLtake ["_law_pool_here", "_law_many"])
    (len : ∀ ss st Kp, p ss st Kp → ss.length = 2) (rd : ∀ ss cs Kp, p ss cs Kp → t_Ltake (dV cs.length Kp) ⟨startV 3 ss, cs.map some⟩) : VFn P w K mg base (k + 1) "_law_take" ["_law_pool_here", "_law_many"] p :=
  okF Fd scLtake len (fun hr => bd_Ltake hr) rd
abbrev sLkind : Stmt := top 8
abbrev nLkind : List Str := ["_law_pool_here", "_law_leaves", "_law_marks", "_law_one", "_law_word"]
theorem scLkind : FnScope nLkind ["_law_pool_here", "_law_leaves", "_law_marks"] (defScope sLkind) := ⟨rfl, rfl, rfl, by decide +kernel, rfl, by decide +kernel, by decide +kernel⟩
theorem bd_Lkind {P : Program} {w : World} {K : PySem.W.Frag} {mg : Str → Option Value} {base : Heap} {k : Nat} {k_Ltake : Nat} {p_Ltake : VSp} (G_Ltake : VFn P w K mg base k_Ltake "_law_take" ["_law_pool_here", "_law_many"] p_Ltake) (h_Ltake : k_Ltake ≤ k) {k_Lkind : Nat} {p_Lkind : VSp} (G_Lkind : VFn P w K mg base k_Lkind "_law_kind" ["_law_pool_here", "_law_leaves", "_law_marks"] p_Lkind) (h_Lkind : k_Lkind ≤ k) (B : Blt mg) {f : Addr} {cdv : Value} {A : Around} {outer : List Env} {s : Shared} {H : Hp} {E : XK}
    (hr : Room k (A.deeper (envOfC "_law_kind" (defScope sLkind) s.heap.objs.size f cdv))) : VSs (cxOf CX0 P w K mg base nLkind "_law_kind" (defScope sLkind) f cdv A outer s H E).nox (defBody sLkind) (t_Lkind p_Ltake p_Lkind) := by
  have hu := u190 hr
  have h : VSs (cxOf CX0 P w K mg base nLkind "_law_kind" (defScope sLkind) f cdv A outer s H E).nox (defBody sLkind) (vSeq (vIfS (vTest (v2 (xEq false) (vVar 1) (vC (.int 1)))) (vSeq (vIfS (vTest (v2 (xEq false) (vN (opCallK ownD p_Ltake) (vCons (vVar 0) (vCons (vC (.int 9)) vNil))) (vC (.int 8)))) ((vRet (vN opTup (vCons (vC (.str "one")) vNil)))) vNext) ((vRet (vN opTup (vCons (vC (.str "mark")) (vCons (v2 xIx (vVar 2) (vN (opCallK ownD p_Ltake) (vCons (vVar 0) (vCons (vN opLen (vCons (vVar 2) vNil)) vNil)))) vNil)))))) vNext) (vSeq (vSet 3 (v2 opAdd (vC (.int 1)) (vN (opCallK ownD p_Ltake) (vCons (vVar 0) (vCons (v2 opSub (vVar 1) (vC (.int 1))) vNil))))) (vSeq (vSet 4 (v2 xIx (vN opLst (vCons (vC (.str "to")) (vCons (vC (.str "to")) (vCons (vC (.str "both")) vNil)))) (vN (opCallK ownD p_Ltake) (vCons (vVar 0) (vCons (vC (.int 3)) vNil))))) ((vRet (vN opTup (vCons (vVar 4) (vCons (vN (opCallK ownD p_Lkind) (vCons (vVar 0) (vCons (vVar 3) (vCons (vVar 2) vNil)))) (vCons (vN (opCallK ownD p_Lkind) (vCons (vVar 0) (vCons (v2 opSub (vVar 1) (vVar 3)) (vCons (vVar 2) vNil)))) vNil))))))))) := (vss_cons (vs_if (vt_xeq hu (vp 1) ve_int) (vss_cons (vs_if (vt_xeq hu (ve_call finW_D G_Ltake hr h_Ltake rfl (va_cons (vp 0) (va_cons ve_int va_nil))) ve_int) (vss_one (vs_ret (ve_tup (va_cons ve_str va_nil)))) vss_nil)
      (vss_one (vs_ret (ve_tup (va_cons ve_str (va_cons (ve_xix (vp 2) (ve_call finW_D G_Ltake hr h_Ltake rfl (va_cons (vp 0) (va_cons (ve_len rfl B.len (va_cons (vp 2) va_nil)) va_nil)))) va_nil)))))) vss_nil)
    (vss_cons (vs_set (i := 3) scLkind.nd rfl (Or.inl rfl) (ve_add ve_int (ve_call finW_D G_Ltake hr h_Ltake rfl (va_cons (vp 0) (va_cons (ve_sub (vp 1) ve_int) va_nil)))))
    (vss_cons (vs_set (i := 4) scLkind.nd rfl (Or.inl rfl) (ve_xix (ve_lst (va_cons ve_str (va_cons ve_str (va_cons ve_str va_nil)))) (ve_call finW_D G_Ltake hr h_Ltake rfl (va_cons (vp 0) (va_cons ve_int va_nil)))))
    (vss_one (vs_ret (ve_tup (va_cons (vp 4) (va_cons (ve_call finW_D G_Lkind hr h_Lkind rfl (va_cons (vp 0) (va_cons (vp 3) (va_cons (vp 2) va_nil)))) (va_cons (ve_call finW_D G_Lkind hr h_Lkind rfl (va_cons (vp 0) (va_cons (ve_sub (vp 1) (vp 3)) (va_cons (vp 2) va_nil)))) va_nil)))))))))
  exact h
theorem ok_Lkind {P : Program} {w : World} {K : PySem.W.Frag} {mg : Str → Option Value} {base : Heap} {k : Nat} {p : VSp} (Fd : Df K mg "_law_kind" sLkind ["_law_pool_here", "_law_leaves", "_law_marks"]) {k_Ltake : Nat} {p_Ltake : VSp} (G_Ltake : VFn P w K mg base k_Ltake "_law_take" ["_law_pool_here", "_law_many"] p_Ltake) (h_Ltake : k_Ltake ≤ k) {k_Lkind : Nat} {p_Lkind : VSp} (G_Lkind : VFn P w K mg base k_Lkind "_law_kind" ["_law_pool_here", "_law_leaves", "_law_marks"] p_Lkind) (h_Lkind : k_Lkind ≤ k) (B : Blt mg)
    (len : ∀ ss st Kp, p ss st Kp → ss.length = 3) (rd : ∀ ss cs Kp, p ss cs Kp → t_Lkind p_Ltake p_Lkind (dV cs.length Kp) ⟨startV 5 ss, cs.map some⟩) : VFn P w K mg base (k + 1) "_law_kind" ["_law_pool_here", "_law_leaves", "_law_marks"] p :=
  okF Fd scLkind len (fun hr => bd_Lkind G_Ltake h_Ltake G_Lkind h_Lkind B hr) rd
abbrev ssidesof : Stmt := top 3
abbrev nsidesof : List Str := ["row", "kind", "sides", "todo", "part", "side", "left", "right", "name", "given"]
theorem scsidesof : FnScope nsidesof ["row", "kind"] (defScope ssidesof) := ⟨rfl, rfl, rfl, by decide +kernel, rfl, by decide +kernel, by decide +kernel⟩
theorem bd_sidesof {P : Program} {w : World} {K : PySem.W.Frag} {mg : Str → Option Value} {base : Heap} {k : Nat} (c_LEFT : VConst K mg "LEFT" (.int 0)) (c_RIGHT : VConst K mg "RIGHT" (.int 1)) {f : Addr} {cdv : Value} {A : Around} {outer : List Env} {s : Shared} {H : Hp} {E : XK}
    (hr : Room k (A.deeper (envOfC "sides_of" (defScope ssidesof) s.heap.objs.size f cdv))) : VSs (cxOf CX0 P w K mg base nsidesof "sides_of" (defScope ssidesof) f cdv A outer s H E).nox (defBody ssidesof) (t_sidesof) := by
  have hu := u190 hr
  have h : VSs (cxOf CX0 P w K mg base nsidesof "sides_of" (defScope ssidesof) f cdv A outer s H E).nox (defBody ssidesof) (vSeq (vSet 2 vDctM) (vSeq (vSet 3 (v2 opAddO (vN opLst (vCons (vN opTup (vCons (vVar 1) (vCons (vC (.int 1)) vNil))) vNil)) (vLcK (vSeqI (vVar 0)) (vgTup 2 (vgCons (vgName 8) (vgCons (vgName 9) vgNil))) vYes (vN opTup (vCons (vVar 9) (vCons (vC (.int 0)) vNil))) [8, 9] finD))) (vSeq (vWhileW (vTruth (vVar 3))
      (vSeq (vAsg (vM0 "list" xPop (vVar 3)) (vgTup 2 (vgCons (vgName 4) (vgCons (vgName 5) vgNil)))) ((vIfS (vTest (v2 (xEq false) (v2 xIx (vVar 4) (vC (.int 0))) (vC (.str "mark")))) (vSeq (vAsg (vDGet2 (vVar 2) (v2 xIx (vVar 4) (vC (.int 1))) (vN opTup (vCons (vC (.int 0)) (vCons (vC (.int 0)) vNil)))) (vgTup 2 (vgCons (vgName 6) (vgCons (vgName 7) vgNil)))) ((vAsg (vIfE (vTest (v2 (xEq false) (vVar 5) (vC (.int 0)))) (vN opTup (vCons (v2 opAdd (vVar 6) (vC (.int 1))) (vCons (vVar 7) vNil))) (vN opTup (vCons (vVar 6) (vCons (v2 opAdd (vVar 7) (vC (.int 1))) vNil)))) (xgDSub (vVar 2) (v2 xIx (vVar 4) (vC (.int 1))))))) ((vIfS (vTest (v2 (xEq false) (v2 xIx (vVar 4) (vC (.int 0))) (vC (.str "to")))) ((vDrop (vM "list" opExtend (vVar 3) (vCons (vN opLst (vCons (vN opTup (vCons (v2 xIx (vVar 4) (vC (.int 1))) (vCons (vIfE (vTest (v2 (xEq false) (vVar 5) (vC (.int 1)))) (vC (.int 0)) (vC (.int 1))) vNil))) (vCons (vN opTup (vCons (v2 xIx (vVar 4) (vC (.int 2))) (vCons (vVar 5) vNil))) vNil))) vNil)))) ((vIfS (vTest (v2 (xEq false) (v2 xIx (vVar 4) (vC (.int 0))) (vC (.str "both")))) ((vDrop (vM "list" opExtend (vVar 3) (vCons (vN opLst (vCons (vN opTup (vCons (v2 xIx (vVar 4) (vC (.int 1))) (vCons (vVar 5) vNil))) (vCons (vN opTup (vCons (v2 xIx (vVar 4) (vC (.int 2))) (vCons (vVar 5) vNil))) vNil))) vNil)))) vNext)))))))) ((vRet (vVar 2)))))) := (vss_cons (vs_set (i := 2) scsidesof.nd rfl (Or.inl rfl) ve_dctM)
    (vss_cons (vs_set (i := 3) scsidesof.nd rfl (Or.inl rfl) (ve_addO (ve_lst (va_cons (ve_tup (va_cons (vp 1) (va_cons (ve_const c_RIGHT rfl) va_nil))) va_nil)) (ve_lcK (own := [("name", 8), ("given", 9)]) finD_ok rfl scsidesof.nd (vi_list (vp 0)) (blkOk_by (N := nsidesof) (sc := defScope ssidesof) (own := [("name", 8), ("given", 9)]) (by decide +kernel)) (by decide) (fun _ _ _ _ _ => (vg_tup rfl (vgs_cons (vg_name (i := 8) scsidesof.nd rfl (Or.inl rfl)) (vgs_cons (vg_name (i := 9) scsidesof.nd rfl (Or.inl rfl)) vgs_nil)))) (fun _ _ _ _ _ => vts_nil) (fun _ _ _ _ _ => (ve_tup (va_cons (vp 9) (va_cons (ve_const c_LEFT rfl) va_nil)))))))
    (vss_cons (vs_whileW PassesOwn.never (vt_truth (vp 3))
      (vss_cons (vs_asg (ve_xpop (vp 3)) (vg_tup rfl (vgs_cons (vg_name (i := 4) scsidesof.nd rfl (Or.inl rfl)) (vgs_cons (vg_name (i := 5) scsidesof.nd rfl (Or.inl rfl)) vgs_nil))))
      (vss_one (vs_if (vt_xeq hu (ve_xix (vp 4) ve_int) ve_str) (vss_cons (vs_asg (ve_dget2 hu (vp 2) (ve_xix (vp 4) ve_int) (ve_tup (va_cons ve_int (va_cons ve_int va_nil)))) (vg_tup rfl (vgs_cons (vg_name (i := 6) scsidesof.nd rfl (Or.inl rfl)) (vgs_cons (vg_name (i := 7) scsidesof.nd rfl (Or.inl rfl)) vgs_nil))))
        (vss_one (vs_asg (ve_ifExp (vt_xeq hu (vp 5) (ve_const c_LEFT rfl)) (ve_tup (va_cons (ve_add (vp 6) ve_int) (va_cons (vp 7) va_nil))) (ve_tup (va_cons (vp 6) (va_cons (ve_add (vp 7) ve_int) va_nil)))) (vg_dsub (vp 2) (ve_xix (vp 4) ve_int) (fun a b => pg_sub a b (set_dict (u1 hu))))))) (vss_one (vs_if (vt_xeq hu (ve_xix (vp 4) ve_int) ve_str) (vss_one (vs_expr (ve_extend (vp 3) (va_cons (ve_lst (va_cons (ve_tup (va_cons (ve_xix (vp 4) ve_int) (va_cons (ve_ifExp (vt_xeq hu (vp 5) (ve_const c_RIGHT rfl)) (ve_const c_LEFT rfl) (ve_const c_RIGHT rfl)) va_nil))) (va_cons (ve_tup (va_cons (ve_xix (vp 4) ve_int) (va_cons (vp 5) va_nil))) va_nil))) va_nil)))) (vss_one (vs_if (vt_xeq hu (ve_xix (vp 4) ve_int) ve_str) (vss_one (vs_expr (ve_extend (vp 3) (va_cons (ve_lst (va_cons (ve_tup (va_cons (ve_xix (vp 4) ve_int) (va_cons (vp 5) va_nil))) (va_cons (ve_tup (va_cons (ve_xix (vp 4) ve_int) (va_cons (vp 5) va_nil))) va_nil))) va_nil)))) vss_nil))))))))
    (vss_one (vs_ret (vp 2))))))
  exact h
theorem ok_sidesof {P : Program} {w : World} {K : PySem.W.Frag} {mg : Str → Option Value} {base : Heap} {k : Nat} {p : VSp} (Fd : Df K mg "sides_of" ssidesof ["row", "kind"]) (c_LEFT : VConst K mg "LEFT" (.int 0)) (c_RIGHT : VConst K mg "RIGHT" (.int 1))
    (len : ∀ ss st Kp, p ss st Kp → ss.length = 2) (rd : ∀ ss cs Kp, p ss cs Kp → t_sidesof (dV cs.length Kp) ⟨startV 10 ss, cs.map some⟩) : VFn P w K mg base (k + 1) "sides_of" ["row", "kind"] p :=
  okF Fd scsidesof len (fun hr => bd_sidesof c_LEFT c_RIGHT hr) rd
abbrev sstandonce : Stmt := top 4
abbrev nstandonce : List Str := ["row", "kind"]
theorem scstandonce : FnScope nstandonce ["row", "kind"] (defScope sstandonce) := ⟨rfl, rfl, rfl, by decide +kernel, rfl, by decide +kernel, by decide +kernel⟩
theorem bd_standonce {P : Program} {w : World} {K : PySem.W.Frag} {mg : Str → Option Value} {base : Heap} {k : Nat} {k_sidesof : Nat} {p_sidesof : VSp} (G_sidesof : VFn P w K mg base k_sidesof "sides_of" ["row", "kind"] p_sidesof) (h_sidesof : k_sidesof ≤ k) (h_1 : 1 ≤ k) (B : Blt mg) {f : Addr} {cG PG : Addr} (TB : GxR.TabB base mg cG PG) (tk : TbK K PG) {A : Around} {outer : List Env} {s : Shared} {H : Hp} {E : XK}
    (hr : Room k (A.deeper (envOfC "stand_once" (defScope sstandonce) s.heap.objs.size f (.ref cG)))) : VSs (cxOf CX0 P w K mg base nstandonce "stand_once" (defScope sstandonce) f (.ref cG) A outer s H E).nox (defBody sstandonce) (t_standonce p_sidesof) := by
  have h : VSs (cxOf CX0 P w K mg base nstandonce "stand_once" (defScope sstandonce) f (.ref cG) A outer s H E).nox (defBody sstandonce) ((vRet (vAG true (vSeqI (vListV (vN (opCallK ownO p_sidesof) (vCons (vVar 0) (vCons (vVar 1) vNil))))) [none] [0] (vgName 0) (v2 opLe (vN opMaxT (vCons (vVar 0) vNil)) (vC (.int 1)))))) := (vss_one (vs_ret (ve_allG (N := ["counts"]) (caps := [none]) (vs := [0]) hr h_1 rfl B.all TB tk rfl (gsc_by (sn := (defScope sstandonce).names) rfl rfl rfl rfl (by decide +kernel)) (caps_by (XN := nstandonce) rfl (by decide +kernel)) (vi_list (ve_listV rfl rfl B.list (ve_call finW_O G_sidesof hr h_sidesof rfl (va_cons (vp 0) (va_cons (vp 1) va_nil))))) (fun _ _ _ _ _ _ hr => have hu := u190 hr; (vg_name (i := 0) (GNd.mk (N := ["counts"]) (by decide)).nd rfl (Or.inl rfl))) (fun _ _ _ _ _ _ hr => have hu := u190 hr; (ve_le (ve_maxT rfl rfl B.max (va_cons (vp 0) va_nil)) ve_int)))))
  exact h
theorem ok_standonce {P : Program} {w : World} {K : PySem.W.Frag} {mg : Str → Option Value} {base : Heap} {k : Nat} {p : VSp} {cG PG : Addr} (Fd : DfC K mg base "stand_once" sstandonce ["row", "kind"] cG PG) {k_sidesof : Nat} {p_sidesof : VSp} (G_sidesof : VFn P w K mg base k_sidesof "sides_of" ["row", "kind"] p_sidesof) (h_sidesof : k_sidesof ≤ k) (h_1 : 1 ≤ k) (B : Blt mg)
    (len : ∀ ss st Kp, p ss st Kp → ss.length = 2) (rd : ∀ ss cs Kp, p ss cs Kp → t_standonce p_sidesof (dV cs.length Kp) ⟨startV 2 ss, cs.map some⟩) : VFn P w K mg base (k + 1) "stand_once" ["row", "kind"] p :=
  okFC Fd scstandonce len (fun hr => bd_standonce G_sidesof h_sidesof h_1 B Fd.TB Fd.tk hr) rd
abbrev sLcasev4 : Stmt := top 9
abbrev nLcasev4 : List Str := ["_law_pool_here", "_law_most", "_law_leaves", "_law_own", "_law_kind_here", "_law_row", "_law_name", "_law_one"]
theorem scLcasev4 : FnScope nLcasev4 ["_law_pool_here", "_law_most"] (defScope sLcasev4) := ⟨rfl, rfl, rfl, by decide +kernel, rfl, by decide +kernel, by decide +kernel⟩
theorem bd_Lcasev4 {P : Program} {w : World} {K : PySem.W.Frag} {mg : Str → Option Value} {base : Heap} {k : Nat} {k_Ltake : Nat} {p_Ltake : VSp} (G_Ltake : VFn P w K mg base k_Ltake "_law_take" ["_law_pool_here", "_law_many"] p_Ltake) (h_Ltake : k_Ltake ≤ k) {k_Lkind : Nat} {p_Lkind : VSp} (G_Lkind : VFn P w K mg base k_Lkind "_law_kind" ["_law_pool_here", "_law_leaves", "_law_marks"] p_Lkind) (h_Lkind : k_Lkind ≤ k) {f : Addr} {cdv : Value} {A : Around} {outer : List Env} {s : Shared} {H : Hp} {E : XK}
    (hr : Room k (A.deeper (envOfC "_law_case" (defScope sLcasev4) s.heap.objs.size f cdv))) : VSs (cxOf CX0 P w K mg base nLcasev4 "_law_case" (defScope sLcasev4) f cdv A outer s H E).nox (defBody sLcasev4) (t_Lcasev4 p_Ltake p_Lkind) := by
  have h : VSs (cxOf CX0 P w K mg base nLcasev4 "_law_case" (defScope sLcasev4) f cdv A outer s H E).nox (defBody sLcasev4) (vSeq (vSet 2 (v2 opAdd (vC (.int 1)) (vN (opCallK ownD p_Ltake) (vCons (vVar 0) (vCons (vVar 1) vNil))))) (vSeq (vSet 3 (v2 opAdd (vC (.int 1)) (vN (opCallK ownD p_Ltake) (vCons (vVar 0) (vCons (vVar 2) vNil))))) (vSeq (vSet 4 (vN (opCallK ownD p_Lkind) (vCons (vVar 0) (vCons (vVar 3) (vCons (vN opLst (vCons (vC (.str "a")) (vCons (vC (.str "to")) (vCons (vC (.str "one")) vNil)))) vNil))))) (vSeq (vSet 5 (vN opLstO vNil)) (vSeq (vForW (vSeqI (vN opLst (vCons (vC (.str "f")) (vCons (vC (.str "g")) (vCons (vC (.str "h")) (vCons (vC (.str "i")) vNil)))))) (vgName 6)
      ((vIfS (vTest (v2 opLt (vVar 3) (vVar 2))) (vSeq (vSet 7 (v2 opAdd (vC (.int 1)) (vN (opCallK ownD p_Ltake) (vCons (vVar 0) (vCons (v2 opSub (vVar 2) (vVar 3)) vNil))))) (vSeq (vSet 3 (v2 opAdd (vVar 3) (vVar 7))) ((vDrop (vM "list" opAppend (vVar 5) (vCons (vN opTup (vCons (vVar 6) (vCons (vN (opCallK ownD p_Lkind) (vCons (vVar 0) (vCons (vVar 7) (vCons (vN opLst (vCons (vC (.str "a")) (vCons (vC (.str "to")) (vCons (vC (.str "one")) vNil)))) vNil)))) vNil))) vNil)))))) vNext))) ((vRet (vN opTup (vCons (vVar 5) (vCons (vVar 4) vNil)))))))))) := (vss_cons (vs_set (i := 2) scLcasev4.nd rfl (Or.inl rfl) (ve_add ve_int (ve_call finW_D G_Ltake hr h_Ltake rfl (va_cons (vp 0) (va_cons (vp 1) va_nil)))))
    (vss_cons (vs_set (i := 3) scLcasev4.nd rfl (Or.inl rfl) (ve_add ve_int (ve_call finW_D G_Ltake hr h_Ltake rfl (va_cons (vp 0) (va_cons (vp 2) va_nil)))))
    (vss_cons (vs_set (i := 4) scLcasev4.nd rfl (Or.inl rfl) (ve_call finW_D G_Lkind hr h_Lkind rfl (va_cons (vp 0) (va_cons (vp 3) (va_cons (ve_lst (va_cons ve_str (va_cons ve_str (va_cons ve_str va_nil)))) va_nil)))))
    (vss_cons (vs_set (i := 5) scLcasev4.nd rfl (Or.inl rfl) (ve_lstO va_nil))
    (vss_cons (vs_forW (vi_list (ve_lst (va_cons ve_str (va_cons ve_str (va_cons ve_str (va_cons ve_str va_nil)))))) (vg_name (i := 6) scLcasev4.nd rfl (Or.inl rfl))
      (vss_one (vs_if (vt_lt (vp 3) (vp 2)) (vss_cons (vs_set (i := 7) scLcasev4.nd rfl (Or.inl rfl) (ve_add ve_int (ve_call finW_D G_Ltake hr h_Ltake rfl (va_cons (vp 0) (va_cons (ve_sub (vp 2) (vp 3)) va_nil)))))
        (vss_cons (vs_set (i := 3) scLcasev4.nd rfl (Or.inl rfl) (ve_add (vp 3) (vp 7)))
        (vss_one (vs_expr (ve_append (vp 5) (va_cons (ve_tup (va_cons (vp 6) (va_cons (ve_call finW_D G_Lkind hr h_Lkind rfl (va_cons (vp 0) (va_cons (vp 7) (va_cons (ve_lst (va_cons ve_str (va_cons ve_str (va_cons ve_str va_nil)))) va_nil)))) va_nil))) va_nil)))))) vss_nil)) (fun a b c => ps_for PassesOwn.never rfl a b c))
    (vss_one (vs_ret (ve_tup (va_cons (vp 5) (va_cons (vp 4) va_nil))))))))))
  exact h
theorem ok_Lcasev4 {P : Program} {w : World} {K : PySem.W.Frag} {mg : Str → Option Value} {base : Heap} {k : Nat} {p : VSp} (Fd : Df K mg "_law_case" sLcasev4 ["_law_pool_here", "_law_most"]) {k_Ltake : Nat} {p_Ltake : VSp} (G_Ltake : VFn P w K mg base k_Ltake "_law_take" ["_law_pool_here", "_law_many"] p_Ltake) (h_Ltake : k_Ltake ≤ k) {k_Lkind : Nat} {p_Lkind : VSp} (G_Lkind : VFn P w K mg base k_Lkind "_law_kind" ["_law_pool_here", "_law_leaves", "_law_marks"] p_Lkind) (h_Lkind : k_Lkind ≤ k)
    (len : ∀ ss st Kp, p ss st Kp → ss.length = 2) (rd : ∀ ss cs Kp, p ss cs Kp → t_Lcasev4 p_Ltake p_Lkind (dV cs.length Kp) ⟨startV 8 ss, cs.map some⟩) : VFn P w K mg base (k + 1) "_law_case" ["_law_pool_here", "_law_most"] p :=
  okF Fd scLcasev4 len (fun hr => bd_Lcasev4 G_Ltake h_Ltake G_Lkind h_Lkind hr) rd
abbrev sLsides : Stmt := top 10
abbrev nLsides : List Str := ["_law_row", "_law_kind_here", "_law_rest", "_law_found", "_law_one", "_law_side", "_law_some", "_law_name", "_law_given"]
theorem scLsides : FnScope nLsides ["_law_row", "_law_kind_here"] (defScope sLsides) := ⟨rfl, rfl, rfl, by decide +kernel, rfl, by decide +kernel, by decide +kernel⟩
theorem bd_Lsides {P : Program} {w : World} {K : PySem.W.Frag} {mg : Str → Option Value} {base : Heap} {k : Nat} (B : Blt mg) {f : Addr} {cdv : Value} {A : Around} {outer : List Env} {s : Shared} {H : Hp} {E : XK}
    (hr : Room k (A.deeper (envOfC "_law_sides" (defScope sLsides) s.heap.objs.size f cdv))) : VSs (cxOf CX0 P w K mg base nLsides "_law_sides" (defScope sLsides) f cdv A outer s H E).nox (defBody sLsides) (t_Lsides) := by
  have hu := u190 hr
  have h : VSs (cxOf CX0 P w K mg base nLsides "_law_sides" (defScope sLsides) f cdv A outer s H E).nox (defBody sLsides) (vSeq (vSet 2 (v2 opAddO (vLcK (vSeqI (vVar 0)) (vgTup 2 (vgCons (vgName 7) (vgCons (vgName 8) vgNil))) vYes (vN opTup (vCons (vVar 8) (vCons (vC (.int 0)) vNil))) [7, 8] finD) (vN opLst (vCons (vN opTup (vCons (vVar 1) (vCons (vC (.int 1)) vNil))) vNil)))) (vSeq (vSet 3 vDctM) (vSeq (vWhileW (vTest (v2 (xEq true) (vVar 2) (vN opLst vNil)))
      (vSeq (vAsg (vM0 "list" xPop (vVar 2)) (vgTup 2 (vgCons (vgName 4) (vgCons (vgName 5) vgNil)))) ((vIfS (vTest (v2 (xEq false) (v2 xIx (vVar 4) (vC (.int 0))) (vC (.str "mark")))) (vSeq (vSet 6 (vN opListO (vCons (vDGet2 (vVar 3) (v2 xIx (vVar 4) (vC (.int 1))) (vN opTup (vCons (vC (.int 0)) (vCons (vC (.int 0)) vNil)))) vNil))) (vSeq (vAsg (v2 opAdd (v2 xIx (vVar 6) (vVar 5)) (vC (.int 1))) (xgSub (vVar 6) (vVar 5))) ((vAsg (vN opTuple (vCons (vVar 6) vNil)) (xgDSub (vVar 3) (v2 xIx (vVar 4) (vC (.int 1)))))))) ((vIfS (vTest (v2 (xEq false) (v2 xIx (vVar 4) (vC (.int 0))) (vC (.str "to")))) ((vDrop (vM "list" opExtend (vVar 2) (vCons (vN opLst (vCons (vN opTup (vCons (v2 xIx (vVar 4) (vC (.int 1))) (vCons (v2 opSub (vC (.int 1)) (vVar 5)) vNil))) (vCons (vN opTup (vCons (v2 xIx (vVar 4) (vC (.int 2))) (vCons (vVar 5) vNil))) vNil))) vNil)))) ((vIfS (vTest (v2 (xEq false) (v2 xIx (vVar 4) (vC (.int 0))) (vC (.str "both")))) ((vDrop (vM "list" opExtend (vVar 2) (vCons (vN opLst (vCons (vN opTup (vCons (v2 xIx (vVar 4) (vC (.int 1))) (vCons (vVar 5) vNil))) (vCons (vN opTup (vCons (v2 xIx (vVar 4) (vC (.int 2))) (vCons (vVar 5) vNil))) vNil))) vNil)))) vNext)))))))) ((vRet (vVar 3)))))) := (vss_cons (vs_set (i := 2) scLsides.nd rfl (Or.inl rfl) (ve_addO (ve_lcK (own := [("_law_name", 7), ("_law_given", 8)]) finD_ok rfl scLsides.nd (vi_list (vp 0)) (blkOk_by (N := nLsides) (sc := defScope sLsides) (own := [("_law_name", 7), ("_law_given", 8)]) (by decide +kernel)) (by decide) (fun _ _ _ _ _ => (vg_tup rfl (vgs_cons (vg_name (i := 7) scLsides.nd rfl (Or.inl rfl)) (vgs_cons (vg_name (i := 8) scLsides.nd rfl (Or.inl rfl)) vgs_nil)))) (fun _ _ _ _ _ => vts_nil) (fun _ _ _ _ _ => (ve_tup (va_cons (vp 8) (va_cons ve_int va_nil))))) (ve_lst (va_cons (ve_tup (va_cons (vp 1) (va_cons ve_int va_nil))) va_nil))))
    (vss_cons (vs_set (i := 3) scLsides.nd rfl (Or.inl rfl) ve_dctM)
    (vss_cons (vs_whileW PassesOwn.never (vt_xne hu (vp 2) (ve_lst va_nil))
      (vss_cons (vs_asg (ve_xpop (vp 2)) (vg_tup rfl (vgs_cons (vg_name (i := 4) scLsides.nd rfl (Or.inl rfl)) (vgs_cons (vg_name (i := 5) scLsides.nd rfl (Or.inl rfl)) vgs_nil))))
      (vss_one (vs_if (vt_xeq hu (ve_xix (vp 4) ve_int) ve_str) (vss_cons (vs_set (i := 6) scLsides.nd rfl (Or.inl rfl) (ve_listO rfl B.list (va_cons (ve_dget2 hu (vp 3) (ve_xix (vp 4) ve_int) (ve_tup (va_cons ve_int (va_cons ve_int va_nil)))) va_nil)))
        (vss_cons (vs_asg (ve_add (ve_xix (vp 6) (vp 5)) ve_int) (vg_xsub (mono_var 6) (mono_var 5) (vp 6) (vp 5) (fun a b => pg_sub a b set_list)))
        (vss_one (vs_asg (ve_tuple rfl B.tuple (va_cons (vp 6) va_nil)) (vg_dsub (vp 3) (ve_xix (vp 4) ve_int) (fun a b => pg_sub a b (set_dict (u1 hu)))))))) (vss_one (vs_if (vt_xeq hu (ve_xix (vp 4) ve_int) ve_str) (vss_one (vs_expr (ve_extend (vp 2) (va_cons (ve_lst (va_cons (ve_tup (va_cons (ve_xix (vp 4) ve_int) (va_cons (ve_sub ve_int (vp 5)) va_nil))) (va_cons (ve_tup (va_cons (ve_xix (vp 4) ve_int) (va_cons (vp 5) va_nil))) va_nil))) va_nil)))) (vss_one (vs_if (vt_xeq hu (ve_xix (vp 4) ve_int) ve_str) (vss_one (vs_expr (ve_extend (vp 2) (va_cons (ve_lst (va_cons (ve_tup (va_cons (ve_xix (vp 4) ve_int) (va_cons (vp 5) va_nil))) (va_cons (ve_tup (va_cons (ve_xix (vp 4) ve_int) (va_cons (vp 5) va_nil))) va_nil))) va_nil)))) vss_nil))))))))
    (vss_one (vs_ret (vp 3))))))
  exact h
theorem ok_Lsides {P : Program} {w : World} {K : PySem.W.Frag} {mg : Str → Option Value} {base : Heap} {k : Nat} {p : VSp} (Fd : Df K mg "_law_sides" sLsides ["_law_row", "_law_kind_here"]) (B : Blt mg)
    (len : ∀ ss st Kp, p ss st Kp → ss.length = 2) (rd : ∀ ss cs Kp, p ss cs Kp → t_Lsides (dV cs.length Kp) ⟨startV 9 ss, cs.map some⟩) : VFn P w K mg base (k + 1) "_law_sides" ["_law_row", "_law_kind_here"] p :=
  okF Fd scLsides len (fun hr => bd_Lsides B hr) rd
abbrev slawk67 : Stmt := top 11
abbrev nlawk67 : List Str := ["_law_script", "_law_k", "_law_row", "_law_kind_here", "_law_due", "_law_handed", "_law_found", "_law_mark", "_law_once", "_law_whole", "_law_name", "_law_given", "_law_one"]
theorem sclawk67 : FnScope nlawk67 ["_law_script"] (defScope slawk67) := ⟨rfl, rfl, rfl, by decide +kernel, rfl, by decide +kernel, by decide +kernel⟩
theorem bd_lawk67 {P : Program} {w : World} {K : PySem.W.Frag} {mg : Str → Option Value} {base : Heap} {k : Nat} {k_Lcasev4 : Nat} {p_Lcasev4 : VSp} (G_Lcasev4 : VFn P w K mg base k_Lcasev4 "_law_case" ["_law_pool_here", "_law_most"] p_Lcasev4) (h_Lcasev4 : k_Lcasev4 ≤ k) {k_Lpool : Nat} {p_Lpool : VSp} (G_Lpool : VFn P w K mg base k_Lpool "_law_pool" ["_law_script", "_law_k"] p_Lpool) (h_Lpool : k_Lpool ≤ k) {k_Lsides : Nat} {p_Lsides : VSp} (G_Lsides : VFn P w K mg base k_Lsides "_law_sides" ["_law_row", "_law_kind_here"] p_Lsides) (h_Lsides : k_Lsides ≤ k) {k_sidesof : Nat} {p_sidesof : VSp} (G_sidesof : VFn P w K mg base k_sidesof "sides_of" ["row", "kind"] p_sidesof) (h_sidesof : k_sidesof ≤ k) {k_standonce : Nat} {p_standonce : VSp} (G_standonce : VFn P w K mg base k_standonce "stand_once" ["row", "kind"] p_standonce) (h_standonce : k_standonce ≤ k) (B : Blt mg) {f : Addr} {cdv : Value} {A : Around} {outer : List Env} {s : Shared} {H : Hp} {E : XK}
    (hr : Room k (A.deeper (envOfC "law" (defScope slawk67) s.heap.objs.size f cdv))) : VSs (cxOf CX0 P w K mg base nlawk67 "law" (defScope slawk67) f cdv A outer s H E).nox (defBody slawk67) (t_lawk67 p_Lcasev4 p_Lpool p_Lsides p_sidesof p_standonce) := by
  have hu := u190 hr
  have h : VSs (cxOf CX0 P w K mg base nlawk67 "law" (defScope slawk67) f cdv A outer s H E).nox (defBody slawk67) (vSeq (vForW (vRng1 (vCons (vN (opII gMax) (vCons (vC (.int 1)) (vCons (vN (opII gMin) (vCons (vN opLen (vCons (vVar 0) vNil)) (vCons (vC (.int 16)) vNil))) vNil))) vNil)) (vgName 1)
      (vSeq (vAsg (vN (opCallK ownD p_Lcasev4) (vCons (vN (opCallK ownO p_Lpool) (vCons (vVar 0) (vCons (vVar 1) vNil))) (vCons (vC (.int 12)) vNil))) (vgTup 2 (vgCons (vgName 2) (vgCons (vgName 3) vgNil)))) (vSeq (vSet 4 (vN (opCallK ownO p_Lsides) (vCons (vVar 2) (vCons (vVar 3) vNil)))) (vSeq (vSet 5 (vN opList (vCons (vVar 2) vNil))) (vSeq (vSet 6 (vN (opCallK ownO p_sidesof) (vCons (vVar 5) (vCons (vVar 3) vNil)))) (vSeq (vIfS (vOrT (vNotT (vTest (vIsM "dict" (vVar 6)))) (vTest (v2 (opNeM true) (vVar 6) (vVar 4)))) ((vRet (vC (.bool false)))) vNext) (vSeq (vLockS 6 (vForW (vKeysL (vVar 6)) (vgName 7)
        ((vIfS (vTest (v2 (xEq true) (vLcK (vTupI (vDIx (vVar 6) (vVar 7))) (vgName 12) (vOrT (vNotT (vTest (vIsi "int" (vVar 12)))) (vTest (vIsi "bool" (vVar 12)))) (vVar 12) [12] finD) (vN opLst vNil))) ((vRet (vC (.bool false)))) vNext)))) (vSeq (vSet 8 (vN (opCallK ownD p_standonce) (vCons (vVar 5) (vCons (vVar 3) vNil)))) (vSeq (vIfS (vTest (v2 (xEq true) (vVar 5) (vVar 2))) ((vRet (vC (.bool false)))) vNext) (vSeq (vIfS (vOrT (vNotT (vTest (vIsi "bool" (vVar 8)))) (vTest (v2 (xEq true) (vVar 8) (v2 (xEq false) (vLockE 4 (vLcK (vKeysL (vVar 4)) (vgName 7) (vTest (v2 opGt (vN opMaxT (vCons (vDIx (vVar 4) (vVar 7)) vNil)) (vC (.int 1)))) (vVar 7) [7] finD)) (vN opLst vNil))))) ((vRet (vC (.bool false)))) vNext) (vSeq (vDrop (vClrM (vVar 6))) (vSeq (vSet 9 (vVar 3)) (vSeq (vForW (vSeqI (v1 opRev (vVar 2))) (vgTup 2 (vgCons (vgName 10) (vgCons (vgName 11) vgNil)))
        ((vSet 9 (vN opTup (vCons (vC (.str "to")) (vCons (vVar 11) (vCons (vVar 9) vNil))))))) ((vIfS (vOrT (vTest (v2 (opNeM true) (vN (opCallK ownO p_sidesof) (vCons (vN opLst vNil) (vCons (vVar 9) vNil))) (vVar 4))) (vOrT (vTest (v2 (opNeM true) (vN (opCallK ownO p_sidesof) (vCons (vN opList (vCons (vVar 2) vNil)) (vCons (vVar 3) vNil))) (vVar 4))) (vTest (v2 (xEq true) (vN (opCallK ownD p_standonce) (vCons (vN opLst vNil) (vCons (vVar 9) vNil))) (vVar 8))))) ((vRet (vC (.bool false)))) vNext))))))))))))))) ((vRet (vC (.bool true))))) := (vss_cons (vs_forW (vi_range1 rfl B.range (va_cons (ve_max rfl rfl B.max (va_cons ve_int (va_cons (ve_min rfl rfl B.min (va_cons (ve_len rfl B.len (va_cons (vp 0) va_nil)) (va_cons ve_int va_nil))) va_nil))) va_nil)) (vg_name (i := 1) sclawk67.nd rfl (Or.inl rfl))
      (vss_cons (vs_asg (ve_call finW_D G_Lcasev4 hr h_Lcasev4 rfl (va_cons (ve_call finW_O G_Lpool hr h_Lpool rfl (va_cons (vp 0) (va_cons (vp 1) va_nil))) (va_cons ve_int va_nil))) (vg_tup rfl (vgs_cons (vg_name (i := 2) sclawk67.nd rfl (Or.inl rfl)) (vgs_cons (vg_name (i := 3) sclawk67.nd rfl (Or.inl rfl)) vgs_nil))))
      (vss_cons (vs_set (i := 4) sclawk67.nd rfl (Or.inr rfl) (ve_call finW_O G_Lsides hr h_Lsides rfl (va_cons (vp 2) (va_cons (vp 3) va_nil))))
      (vss_cons (vs_set (i := 5) sclawk67.nd rfl (Or.inl rfl) (ve_list rfl B.list (va_cons (vp 2) va_nil)))
      (vss_cons (vs_set (i := 6) sclawk67.nd rfl (Or.inl rfl) (ve_call finW_O G_sidesof hr h_sidesof rfl (va_cons (vp 5) (va_cons (vp 3) va_nil))))
      (vss_cons (vs_if (VW.vt (vw_or (vt_not (vt_val (ve_isM (T := "dict") rfl B.isinstance rfl B.dict (by decide +kernel) (vp 6)))) (vw_or1 (vt_neM hu (vp 6) (vp 4))))) (vss_one (vs_ret ve_bl)) vss_nil)
      (vss_cons (vs_lock (i := 6) (vs_forW (vi_keysL (vp 6)) (vg_name (i := 7) sclawk67.nd rfl (Or.inl rfl))
        (vss_one (vs_if (vt_xne hu (ve_lcK (own := [("_law_one", 12)]) finD_ok rfl sclawk67.nd (vi_tup (ve_dix hu (vp 6) (vp 7))) (blkOk_by (N := nlawk67) (sc := defScope slawk67) (own := [("_law_one", 12)]) (by decide +kernel)) (by decide) (fun _ _ _ _ _ => (vg_name (i := 12) sclawk67.nd rfl (Or.inl rfl))) (fun _ _ _ _ _ => (vts_one (VW.vt (vw_or (vt_not (vt_val (ve_isi (T := "int") (by decide) rfl B.isinstance rfl B.int (by decide +kernel) (vp 12)))) (vw_or1 (vt_val (ve_isi (T := "bool") (by decide) rfl B.isinstance rfl B.bool (by decide +kernel) (vp 12)))))))) (fun _ _ _ _ _ => (vp 12))) (ve_lst va_nil)) (vss_one (vs_ret ve_bl)) vss_nil)) (fun a b c => ps_for PassesOwn.never rfl a b c)))
      (vss_cons (vs_set (i := 8) sclawk67.nd rfl (Or.inl rfl) (ve_call finW_D G_standonce hr h_standonce rfl (va_cons (vp 5) (va_cons (vp 3) va_nil))))
      (vss_cons (vs_if (vt_xne hu (vp 5) (vp 2)) (vss_one (vs_ret ve_bl)) vss_nil)
      (vss_cons (vs_if (VW.vt (vw_or (vt_not (vt_val (ve_isi (T := "bool") (by decide) rfl B.isinstance rfl B.bool (by decide +kernel) (vp 8)))) (vw_or1 (vt_xne hu (vp 8) (ve_xeq hu (ve_lock (i := 4) (ve_lcK (own := [("_law_mark", 7)]) finD_ok rfl sclawk67.nd (vi_keysL (vp 4)) (blkOk_by (N := nlawk67) (sc := defScope slawk67) (own := [("_law_mark", 7)]) (by decide +kernel)) (by decide) (fun _ _ _ _ _ => (vg_name (i := 7) sclawk67.nd rfl (Or.inl rfl))) (fun _ _ _ _ _ => (vts_one (vt_gt (ve_maxT rfl rfl B.max (va_cons (ve_dix hu (vp 4) (vp 7)) va_nil)) ve_int))) (fun _ _ _ _ _ => (vp 7)))) (ve_lst va_nil)))))) (vss_one (vs_ret ve_bl)) vss_nil)
      (vss_cons (vs_expr (ve_clrM (vp 6)))
      (vss_cons (vs_set (i := 9) sclawk67.nd rfl (Or.inl rfl) (vp 3))
      (vss_cons (vs_forW (vi_list (ve_rev (vp 2))) (vg_tup rfl (vgs_cons (vg_name (i := 10) sclawk67.nd rfl (Or.inl rfl)) (vgs_cons (vg_name (i := 11) sclawk67.nd rfl (Or.inl rfl)) vgs_nil)))
        (vss_one (vs_set (i := 9) sclawk67.nd rfl (Or.inl rfl) (ve_tup (va_cons ve_str (va_cons (vp 11) (va_cons (vp 9) va_nil)))))) (fun a b c => ps_for PassesOwn.never rfl a b c))
      (vss_one (vs_if (VW.vt (vw_or (vt_neM hu (ve_call finW_O G_sidesof hr h_sidesof rfl (va_cons (ve_lst va_nil) (va_cons (vp 9) va_nil))) (vp 4)) (vw_or (vt_neM hu (ve_call finW_O G_sidesof hr h_sidesof rfl (va_cons (ve_list rfl B.list (va_cons (vp 2) va_nil)) (va_cons (vp 3) va_nil))) (vp 4)) (vw_or1 (vt_xne hu (ve_call finW_D G_standonce hr h_standonce rfl (va_cons (ve_lst va_nil) (va_cons (vp 9) va_nil))) (vp 8)))))) (vss_one (vs_ret ve_bl)) vss_nil)))))))))))))) (fun a b c => ps_for PassesOwn.never rfl a b c))
    (vss_one (vs_ret ve_bl)))
  exact h
set_option maxHeartbeats 8000000 in
theorem all_mk {l : PySem.W.OpenLaw} {q : Program} {w : World} {K : PySem.W.Frag} {h : Heap} {mg : Str → Option Value} {fa f0 f1 f2 f3 f4 f5 f6 f7 : Addr} (X : K.In h) (G : h.Ns mainGlobals mg) (hfa : mg "law" = some (.ref fa)) (T : Told q mg h)
    {cG5 P5 : Addr} {dd5 : Option Addr} {e5 : Value} {v5 : Array Value} {sx5 : Array (Option Value)}
    {od0 an0 od1 an1 od2 an2 od3 an3 od4 an4 od5 an5 od6 an6 od7 an7 : Option Addr}
    {sl0 sl1 sl2 sl3 sl4 sl5 sl6 sl7 : Array (Option Value)} {oc0 kV0 dc0 pm0 cd0 ct0 oc1 kV1 dc1 pm1 cd1 ct1 oc2 kV2 dc2 pm2 cd2 ct2 oc3 kV3 dc3 pm3 cd3 ct3 oc4 kV4 dc4 pm4 cd4 ct4 oc5 kV5 dc5 pm5 ct5 oc6 kV6 dc6 pm6 cd6 ct6 oc7 kV7 dc7 pm7 cd7 ct7 : Value}
    {u0 u1 : Tok}
    (a0 : PySem.W.nsIn K mainGlobals "law" = some (some (.ref f0)))
    (l0 : K.lookup f0 = some ⟨oc0, od0, .func (PySem.W.fnOf "law" "law" (defArgs slawk67) (defBody slawk67) (defScope slawk67) .none kV0 dc0 pm0 an0 cd0 ct0), sl0⟩)
    (c0 : PySem.W.codeIn K cd0 "law" = true) (k0 : PySem.W.keepIn K (.ref f0) = true)
    (a1 : PySem.W.nsIn K mainGlobals "_law_pool" = some (some (.ref f1)))
    (l1 : K.lookup f1 = some ⟨oc1, od1, .func (PySem.W.fnOf "_law_pool" "_law_pool" (defArgs sLpool) (defBody sLpool) (defScope sLpool) .none kV1 dc1 pm1 an1 cd1 ct1), sl1⟩)
    (c1 : PySem.W.codeIn K cd1 "_law_pool" = true) (k1 : PySem.W.keepIn K (.ref f1) = true)
    (a2 : PySem.W.nsIn K mainGlobals "_law_take" = some (some (.ref f2)))
    (l2 : K.lookup f2 = some ⟨oc2, od2, .func (PySem.W.fnOf "_law_take" "_law_take" (defArgs sLtake) (defBody sLtake) (defScope sLtake) .none kV2 dc2 pm2 an2 cd2 ct2), sl2⟩)
    (c2 : PySem.W.codeIn K cd2 "_law_take" = true) (k2 : PySem.W.keepIn K (.ref f2) = true)
    (a3 : PySem.W.nsIn K mainGlobals "_law_kind" = some (some (.ref f3)))
    (l3 : K.lookup f3 = some ⟨oc3, od3, .func (PySem.W.fnOf "_law_kind" "_law_kind" (defArgs sLkind) (defBody sLkind) (defScope sLkind) .none kV3 dc3 pm3 an3 cd3 ct3), sl3⟩)
    (c3 : PySem.W.codeIn K cd3 "_law_kind" = true) (k3 : PySem.W.keepIn K (.ref f3) = true)
    (a4 : PySem.W.nsIn K mainGlobals "sides_of" = some (some (.ref f4)))
    (l4 : K.lookup f4 = some ⟨oc4, od4, .func (PySem.W.fnOf "sides_of" "sides_of" (defArgs ssidesof) (defBody ssidesof) (defScope ssidesof) .none kV4 dc4 pm4 an4 cd4 ct4), sl4⟩)
    (c4 : PySem.W.codeIn K cd4 "sides_of" = true) (k4 : PySem.W.keepIn K (.ref f4) = true)
    (a5 : PySem.W.nsIn K mainGlobals "stand_once" = some (some (.ref f5)))
    (l5 : K.lookup f5 = some ⟨oc5, od5, .func (PySem.W.fnOf "stand_once" "stand_once" (defArgs sstandonce) (defBody sstandonce) (defScope sstandonce) .none kV5 dc5 pm5 an5 (.ref cG5) ct5), sl5⟩)
    (c5 : PySem.W.codeIn K (.ref cG5) "stand_once" = true) (k5 : PySem.W.keepIn K (.ref f5) = true)
    (r5 : ((PyProof.Rows.recsOf q).any fun e => e.name == ("stand_once" : Str)) = true) (d5 : K.lookup cG5 = some ⟨e5, dd5, .fields v5, sx5⟩) (j5 : v5[11]? = some (.ref P5)) (n5 : K.lookup P5 = none)
    (a6 : PySem.W.nsIn K mainGlobals "_law_case" = some (some (.ref f6)))
    (l6 : K.lookup f6 = some ⟨oc6, od6, .func (PySem.W.fnOf "_law_case" "_law_case" (defArgs sLcasev4) (defBody sLcasev4) (defScope sLcasev4) .none kV6 dc6 pm6 an6 cd6 ct6), sl6⟩)
    (c6 : PySem.W.codeIn K cd6 "_law_case" = true) (k6 : PySem.W.keepIn K (.ref f6) = true)
    (a7 : PySem.W.nsIn K mainGlobals "_law_sides" = some (some (.ref f7)))
    (l7 : K.lookup f7 = some ⟨oc7, od7, .func (PySem.W.fnOf "_law_sides" "_law_sides" (defArgs sLsides) (defBody sLsides) (defScope sLsides) .none kV7 dc7 pm7 an7 cd7 ct7), sl7⟩)
    (c7 : PySem.W.codeIn K cd7 "_law_sides" = true) (k7 : PySem.W.keepIn K (.ref f7) = true)
    (zg_is_mark : PySem.W.nsIn K mainGlobals "is_mark" = some none)
    (zg_is_numbered : PySem.W.nsIn K mainGlobals "is_numbered" = some none)
    (zg_read_spot : PySem.W.nsIn K mainGlobals "read_spot" = some none)
    (zg_is_tree : PySem.W.nsIn K mainGlobals "is_tree" = some none)
    (zg_has_form : PySem.W.nsIn K mainGlobals "has_form" = some none)
    (zg_has_form_worlds : PySem.W.nsIn K mainGlobals "has_form_worlds" = some none)
    (zg_which_live : PySem.W.nsIn K mainGlobals "which_live" = some none)
    (zg_row_lives : PySem.W.nsIn K mainGlobals "row_lives" = some none)
    (zg_bars_by : PySem.W.nsIn K mainGlobals "bars_by" = some none)
    (zg_room_above : PySem.W.nsIn K mainGlobals "room_above" = some none)
    (zg_sum_with : PySem.W.nsIn K mainGlobals "sum_with" = some none)
    (zg_is_place : PySem.W.nsIn K mainGlobals "is_place" = some none)
    (zg_is_formed : PySem.W.nsIn K mainGlobals "is_formed" = some none)
    (zg_drop_name : PySem.W.nsIn K mainGlobals "drop_name" = some none)
    (zg_read_row : PySem.W.nsIn K mainGlobals "read_row" = some none)
    (zg_is_number : PySem.W.nsIn K mainGlobals "is_number" = some none)
    (z0 : PySem.W.nsIn K mainGlobals "len" = some none)
    (z1 : PySem.W.nsIn K mainGlobals "max" = some none)
    (z2 : PySem.W.nsIn K mainGlobals "min" = some none)
    (z3 : PySem.W.nsIn K mainGlobals "range" = some none)
    (z4 : PySem.W.nsIn K mainGlobals "int" = some none)
    (z5 : PySem.W.nsIn K mainGlobals "str" = some none)
    (z6 : PySem.W.nsIn K mainGlobals "list" = some none)
    (z7 : PySem.W.nsIn K mainGlobals "tuple" = some none)
    (z8 : PySem.W.nsIn K mainGlobals "bool" = some none)
    (z9 : PySem.W.nsIn K mainGlobals "sorted" = some none)
    (z10 : PySem.W.nsIn K mainGlobals "enumerate" = some none)
    (z11 : PySem.W.nsIn K mainGlobals "zip" = some none)
    (z12 : PySem.W.nsIn K mainGlobals "isinstance" = some none)
    (z13 : PySem.W.nsIn K mainGlobals "all" = some none)
    (z14 : PySem.W.nsIn K mainGlobals "any" = some none)
    (z15 : PySem.W.nsIn K mainGlobals "sum" = some none)
    (z16 : PySem.W.nsIn K mainGlobals "dict" = some none)
    (z17 : PySem.W.nsIn K mainGlobals "set" = some none)
    (z18 : PySem.W.nsIn K mainGlobals "divmod" = some none)
    (z19 : PySem.W.nsIn K mainGlobals "reversed" = some none)
    (z20 : PySem.W.nsIn K mainGlobals "repr" = some none)
    (y0 : PySem.W.nsIn K mainGlobals "LEFT" = some (some (.int 0 u0)))
    (y1 : PySem.W.nsIn K mainGlobals "RIGHT" = some (some (.int 1 u1))) :
    LamX.LawAtS l w K CX0 40 63 "_law_script" mg fa h := by
  have e := hfa.symm.trans (PySem.W.mg_of X G a0)
  cases e
  have F0 := fun_mk (st := slawk67) l0 c0 k0
  have F1 := fun_mk (st := sLpool) l1 c1 k1
  have b1 := F1.binds (ps := ["_law_script", "_law_k"]) fun _ _ _ _ _ _ us hl => match us, hl with | [_, _], _ => rfl
  have g1 := PySem.W.mg_of X G a1
  have F2 := fun_mk (st := sLtake) l2 c2 k2
  have b2 := F2.binds (ps := ["_law_pool_here", "_law_many"]) fun _ _ _ _ _ _ us hl => match us, hl with | [_, _], _ => rfl
  have g2 := PySem.W.mg_of X G a2
  have F3 := fun_mk (st := sLkind) l3 c3 k3
  have b3 := F3.binds (ps := ["_law_pool_here", "_law_leaves", "_law_marks"]) fun _ _ _ _ _ _ us hl => match us, hl with | [_, _, _], _ => rfl
  have g3 := PySem.W.mg_of X G a3
  have F4 := fun_mk (st := ssidesof) l4 c4 k4
  have b4 := F4.binds (ps := ["row", "kind"]) fun _ _ _ _ _ _ us hl => match us, hl with | [_, _], _ => rfl
  have g4 := PySem.W.mg_of X G a4
  have FC5 : Vl.FunC K "stand_once" "stand_once" sstandonce f5 _ cG5 := ⟨⟨_, _, _, _, _, _, _, _, rfl, l5, c5⟩, k5⟩
  have F5 := FC5.fun
  have b5 := F5.binds (ps := ["row", "kind"]) fun _ _ _ _ _ _ us hl => match us, hl with | [_, _], _ => rfl
  have g5 := PySem.W.mg_of X G a5
  have T5 := T.tab X r5 g5 l5 rfl d5 j5
  have F6 := fun_mk (st := sLcasev4) l6 c6 k6
  have b6 := F6.binds (ps := ["_law_pool_here", "_law_most"]) fun _ _ _ _ _ _ us hl => match us, hl with | [_, _], _ => rfl
  have g6 := PySem.W.mg_of X G a6
  have F7 := fun_mk (st := sLsides) l7 c7 k7
  have b7 := F7.binds (ps := ["_law_row", "_law_kind_here"]) fun _ _ _ _ _ _ us hl => match us, hl with | [_, _], _ => rfl
  have g7 := PySem.W.mg_of X G a7
  have m0 := PySem.W.mg_none_of X G z0
  have m1 := PySem.W.mg_none_of X G z1
  have m2 := PySem.W.mg_none_of X G z2
  have m3 := PySem.W.mg_none_of X G z3
  have m4 := PySem.W.mg_none_of X G z4
  have m5 := PySem.W.mg_none_of X G z5
  have m6 := PySem.W.mg_none_of X G z6
  have m7 := PySem.W.mg_none_of X G z7
  have m8 := PySem.W.mg_none_of X G z8
  have m9 := PySem.W.mg_none_of X G z9
  have m10 := PySem.W.mg_none_of X G z10
  have m11 := PySem.W.mg_none_of X G z11
  have m12 := PySem.W.mg_none_of X G z12
  have m13 := PySem.W.mg_none_of X G z13
  have m14 := PySem.W.mg_none_of X G z14
  have m15 := PySem.W.mg_none_of X G z15
  have m16 := PySem.W.mg_none_of X G z16
  have m17 := PySem.W.mg_none_of X G z17
  have m18 := PySem.W.mg_none_of X G z18
  have m19 := PySem.W.mg_none_of X G z19
  have m20 := PySem.W.mg_none_of X G z20
  have x0 := PySem.W.mg_of X G y0
  have x1 := PySem.W.mg_of X G y1
  have tg : ∀ H : Hp, (∀ p ∈ ([(cG5, P5)] : List (Addr × Addr)), H p.2 = some (.tbl #[])) → ∀ P, TbK K P → GxR.TabG H P := fun H hT P ⟨nm, hm, c, ht⟩ => by
    simp only [genNames, List.mem_cons, List.not_mem_nil, or_false] at hm
    rcases hm with rfl | rfl | rfl | rfl | rfl | rfl | rfl | rfl | rfl | rfl | rfl | rfl | rfl | rfl | rfl | rfl | rfl
    · exact absurd ht (tbAt_no zg_is_mark)
    · exact absurd ht (tbAt_no zg_is_numbered)
    · exact absurd ht (tbAt_no zg_read_spot)
    · exact absurd ht (tbAt_no zg_is_tree)
    · exact absurd ht (tbAt_no zg_has_form)
    · exact absurd ht (tbAt_no zg_has_form_worlds)
    · exact absurd ht (tbAt_no zg_which_live)
    · exact absurd ht (tbAt_no zg_row_lives)
    · exact absurd ht (tbAt_no zg_bars_by)
    · exact absurd ht (tbAt_no zg_room_above)
    · exact absurd ht (tbAt_no zg_sum_with)
    · exact absurd ht (tbAt_no zg_is_place)
    · exact absurd ht (tbAt_no zg_is_formed)
    · rw [tbAt_one a5 l5 rfl d5 j5 ht]
      exact tabG_of (hT (cG5, P5) List.mem_cons_self)
    · exact absurd ht (tbAt_no zg_drop_name)
    · exact absurd ht (tbAt_no zg_read_row)
    · exact absurd ht (tbAt_no zg_is_number)
  refine ⟨PySem.W.fnOf "law" "law" (defArgs slawk67) (defBody slawk67) (defScope slawk67) .none kV0 dc0 pm0 an0 cd0 ct0, [(cG5, P5)], spLaw K, ?_, ?_, ?_, fun s v => .of_eq rfl, fun H a ns hl _ hT hS => ⟨a, ns, rfl, hS, hl, tg H hT, fun _ => rfl⟩, fun base _ _ hB => by
    have D_Lpool : Df K mg "_law_pool" sLpool ["_law_script", "_law_k"] := ⟨_, _, F1, b1, g1⟩
    have D_Ltake : Df K mg "_law_take" sLtake ["_law_pool_here", "_law_many"] := ⟨_, _, F2, b2, g2⟩
    have D_Lkind : Df K mg "_law_kind" sLkind ["_law_pool_here", "_law_leaves", "_law_marks"] := ⟨_, _, F3, b3, g3⟩
    have D_sidesof : Df K mg "sides_of" ssidesof ["row", "kind"] := ⟨_, _, F4, b4, g4⟩
    have D_standonce : DfC K mg base "stand_once" sstandonce ["row", "kind"] cG5 P5 := ⟨⟨_, _, FC5, b5, g5⟩, tb_conv (hB (cG5, P5) (by simp)), ⟨"stand_once", by simp [genNames], cG5, _, _, _, _, _, _, _, _, _, a5, l5, rfl, d5, j5⟩⟩
    have D_Lcasev4 : Df K mg "_law_case" sLcasev4 ["_law_pool_here", "_law_most"] := ⟨_, _, F6, b6, g6⟩
    have D_Lsides : Df K mg "_law_sides" sLsides ["_law_row", "_law_kind_here"] := ⟨_, _, F7, b7, g7⟩
    have B : Blt mg := ⟨m0, m1, m2, m3, m4, m5, m6, m7, m8, m9, m10, m11, m12, m13, m14, m15, m16, m17, m18, m19, m20⟩
    have C_LEFT : VConst K mg "LEFT" (.int 0) := ⟨(.int 0), _, x0, ⟨_, rfl⟩, fun _ => .int _⟩
    have C_RIGHT : VConst K mg "RIGHT" (.int 1) := ⟨(.int 1), _, x1, ⟨_, rfl⟩, fun _ => .int _⟩
    have G_Lpool : VFn l.prog w K mg base 1 "_law_pool" ["_law_script", "_law_k"] pPool := ok_Lpool D_Lpool B (fun ss st Kp h => by first | (obtain ⟨h, _⟩ := h; rw [h]; rfl) | (obtain ⟨_, h, _⟩ := h; rw [h]; rfl) | (obtain ⟨_, _, h, _⟩ := h; rw [h]; rfl) | (obtain ⟨_, _, _, h, _⟩ := h; rw [h]; rfl) | (obtain ⟨_, _, _, _, h, _⟩ := h; rw [h]; rfl) | (obtain ⟨_, _, _, _, _, h, _⟩ := h; rw [h]; rfl) | (obtain ⟨_, _, _, _, _, _, h, _⟩ := h; rw [h]; rfl) | (obtain ⟨_, _, _, _, _, _, _, h, _⟩ := h; rw [h]; rfl) | (obtain ⟨_, _, _, _, _, _, _, _, h, _⟩ := h; rw [h]; rfl) | (obtain ⟨_, _, _, _, _, _, _, _, _, h, _⟩ := h; rw [h]; rfl) | (obtain ⟨_, _, _, _, _, _, _, _, _, _, h, _⟩ := h; rw [h]; rfl) | (obtain ⟨_, _, _, _, _, _, _, _, _, _, _, h, _⟩ := h; rw [h]; rfl) | (obtain ⟨_, _, _, _, _, _, _, _, _, _, _, _, h, _⟩ := h; rw [h]; rfl) | (obtain ⟨_, _, _, _, _, _, _, _, _, _, _, _, _, h, _⟩ := h; rw [h]; rfl) | (obtain ⟨_, _, _, h, _⟩ := i_take h; rw [h]; rfl)) (fun ss cs Kp h => r_pool h)
    have G_Ltake : VFn l.prog w K mg base 1 "_law_take" ["_law_pool_here", "_law_many"] pTake := ok_Ltake D_Ltake (fun ss st Kp h => by first | (obtain ⟨h, _⟩ := h; rw [h]; rfl) | (obtain ⟨_, h, _⟩ := h; rw [h]; rfl) | (obtain ⟨_, _, h, _⟩ := h; rw [h]; rfl) | (obtain ⟨_, _, _, h, _⟩ := h; rw [h]; rfl) | (obtain ⟨_, _, _, _, h, _⟩ := h; rw [h]; rfl) | (obtain ⟨_, _, _, _, _, h, _⟩ := h; rw [h]; rfl) | (obtain ⟨_, _, _, _, _, _, h, _⟩ := h; rw [h]; rfl) | (obtain ⟨_, _, _, _, _, _, _, h, _⟩ := h; rw [h]; rfl) | (obtain ⟨_, _, _, _, _, _, _, _, h, _⟩ := h; rw [h]; rfl) | (obtain ⟨_, _, _, _, _, _, _, _, _, h, _⟩ := h; rw [h]; rfl) | (obtain ⟨_, _, _, _, _, _, _, _, _, _, h, _⟩ := h; rw [h]; rfl) | (obtain ⟨_, _, _, _, _, _, _, _, _, _, _, h, _⟩ := h; rw [h]; rfl) | (obtain ⟨_, _, _, _, _, _, _, _, _, _, _, _, h, _⟩ := h; rw [h]; rfl) | (obtain ⟨_, _, _, _, _, _, _, _, _, _, _, _, _, h, _⟩ := h; rw [h]; rfl) | (obtain ⟨_, _, _, h, _⟩ := i_take h; rw [h]; rfl)) (fun ss cs Kp h => r_take h)
    have R_Lkind : ∀ N : Nat, VFn l.prog w K mg base (N + 1) "_law_kind" ["_law_pool_here", "_law_leaves", "_law_marks"] (pKind N) := by
      intro N
      induction N with
      | zero => exact vacF D_Lkind scLkind (fun ss st Kp h => by obtain ⟨_, _, _, _, _, _, _, h1, h2, _⟩ := i_kind h; omega)
      | succ N ih => exact ok_Lkind D_Lkind G_Ltake (by omega) ih (by omega) B (fun ss st Kp h => by obtain ⟨_, _, _, _, h, _⟩ := i_kind h; rw [h]; rfl) (fun ss cs Kp h => r_kind h)
    have G_Lkind := R_Lkind 12
    have G_sidesof : VFn l.prog w K mg base 1 "sides_of" ["row", "kind"] pSides := ok_sidesof D_sidesof C_LEFT C_RIGHT (fun ss st Kp h => by first | (obtain ⟨h, _⟩ := h; rw [h]; rfl) | (obtain ⟨_, h, _⟩ := h; rw [h]; rfl) | (obtain ⟨_, _, h, _⟩ := h; rw [h]; rfl) | (obtain ⟨_, _, _, h, _⟩ := h; rw [h]; rfl) | (obtain ⟨_, _, _, _, h, _⟩ := h; rw [h]; rfl) | (obtain ⟨_, _, _, _, _, h, _⟩ := h; rw [h]; rfl) | (obtain ⟨_, _, _, _, _, _, h, _⟩ := h; rw [h]; rfl) | (obtain ⟨_, _, _, _, _, _, _, h, _⟩ := h; rw [h]; rfl) | (obtain ⟨_, _, _, _, _, _, _, _, h, _⟩ := h; rw [h]; rfl) | (obtain ⟨_, _, _, _, _, _, _, _, _, h, _⟩ := h; rw [h]; rfl) | (obtain ⟨_, _, _, _, _, _, _, _, _, _, h, _⟩ := h; rw [h]; rfl) | (obtain ⟨_, _, _, _, _, _, _, _, _, _, _, h, _⟩ := h; rw [h]; rfl) | (obtain ⟨_, _, _, _, _, _, _, _, _, _, _, _, h, _⟩ := h; rw [h]; rfl) | (obtain ⟨_, _, _, _, _, _, _, _, _, _, _, _, _, h, _⟩ := h; rw [h]; rfl) | (obtain ⟨_, _, _, h, _⟩ := i_take h; rw [h]; rfl)) (fun ss cs Kp h => r_sides h)
    have G_standonce : VFn l.prog w K mg base 2 "stand_once" ["row", "kind"] pOnce := ok_standonce D_standonce G_sidesof (by omega) (by omega) B (fun ss st Kp h => by first | (obtain ⟨h, _⟩ := h; rw [h]; rfl) | (obtain ⟨_, h, _⟩ := h; rw [h]; rfl) | (obtain ⟨_, _, h, _⟩ := h; rw [h]; rfl) | (obtain ⟨_, _, _, h, _⟩ := h; rw [h]; rfl) | (obtain ⟨_, _, _, _, h, _⟩ := h; rw [h]; rfl) | (obtain ⟨_, _, _, _, _, h, _⟩ := h; rw [h]; rfl) | (obtain ⟨_, _, _, _, _, _, h, _⟩ := h; rw [h]; rfl) | (obtain ⟨_, _, _, _, _, _, _, h, _⟩ := h; rw [h]; rfl) | (obtain ⟨_, _, _, _, _, _, _, _, h, _⟩ := h; rw [h]; rfl) | (obtain ⟨_, _, _, _, _, _, _, _, _, h, _⟩ := h; rw [h]; rfl) | (obtain ⟨_, _, _, _, _, _, _, _, _, _, h, _⟩ := h; rw [h]; rfl) | (obtain ⟨_, _, _, _, _, _, _, _, _, _, _, h, _⟩ := h; rw [h]; rfl) | (obtain ⟨_, _, _, _, _, _, _, _, _, _, _, _, h, _⟩ := h; rw [h]; rfl) | (obtain ⟨_, _, _, _, _, _, _, _, _, _, _, _, _, h, _⟩ := h; rw [h]; rfl) | (obtain ⟨_, _, _, h, _⟩ := i_take h; rw [h]; rfl)) (fun ss cs Kp h => r_once h)
    have G_Lcasev4 : VFn l.prog w K mg base 30 "_law_case" ["_law_pool_here", "_law_most"] pCase := ok_Lcasev4 D_Lcasev4 G_Ltake (by omega) G_Lkind (by omega) (fun ss st Kp h => by first | (obtain ⟨h, _⟩ := h; rw [h]; rfl) | (obtain ⟨_, h, _⟩ := h; rw [h]; rfl) | (obtain ⟨_, _, h, _⟩ := h; rw [h]; rfl) | (obtain ⟨_, _, _, h, _⟩ := h; rw [h]; rfl) | (obtain ⟨_, _, _, _, h, _⟩ := h; rw [h]; rfl) | (obtain ⟨_, _, _, _, _, h, _⟩ := h; rw [h]; rfl) | (obtain ⟨_, _, _, _, _, _, h, _⟩ := h; rw [h]; rfl) | (obtain ⟨_, _, _, _, _, _, _, h, _⟩ := h; rw [h]; rfl) | (obtain ⟨_, _, _, _, _, _, _, _, h, _⟩ := h; rw [h]; rfl) | (obtain ⟨_, _, _, _, _, _, _, _, _, h, _⟩ := h; rw [h]; rfl) | (obtain ⟨_, _, _, _, _, _, _, _, _, _, h, _⟩ := h; rw [h]; rfl) | (obtain ⟨_, _, _, _, _, _, _, _, _, _, _, h, _⟩ := h; rw [h]; rfl) | (obtain ⟨_, _, _, _, _, _, _, _, _, _, _, _, h, _⟩ := h; rw [h]; rfl) | (obtain ⟨_, _, _, _, _, _, _, _, _, _, _, _, _, h, _⟩ := h; rw [h]; rfl) | (obtain ⟨_, _, _, h, _⟩ := i_take h; rw [h]; rfl)) (fun ss cs Kp h => r_Lcase h)
    have G_Lsides : VFn l.prog w K mg base 1 "_law_sides" ["_law_row", "_law_kind_here"] pLSides := ok_Lsides D_Lsides B (fun ss st Kp h => by first | (obtain ⟨h, _⟩ := h; rw [h]; rfl) | (obtain ⟨_, h, _⟩ := h; rw [h]; rfl) | (obtain ⟨_, _, h, _⟩ := h; rw [h]; rfl) | (obtain ⟨_, _, _, h, _⟩ := h; rw [h]; rfl) | (obtain ⟨_, _, _, _, h, _⟩ := h; rw [h]; rfl) | (obtain ⟨_, _, _, _, _, h, _⟩ := h; rw [h]; rfl) | (obtain ⟨_, _, _, _, _, _, h, _⟩ := h; rw [h]; rfl) | (obtain ⟨_, _, _, _, _, _, _, h, _⟩ := h; rw [h]; rfl) | (obtain ⟨_, _, _, _, _, _, _, _, h, _⟩ := h; rw [h]; rfl) | (obtain ⟨_, _, _, _, _, _, _, _, _, h, _⟩ := h; rw [h]; rfl) | (obtain ⟨_, _, _, _, _, _, _, _, _, _, h, _⟩ := h; rw [h]; rfl) | (obtain ⟨_, _, _, _, _, _, _, _, _, _, _, h, _⟩ := h; rw [h]; rfl) | (obtain ⟨_, _, _, _, _, _, _, _, _, _, _, _, h, _⟩ := h; rw [h]; rfl) | (obtain ⟨_, _, _, _, _, _, _, _, _, _, _, _, _, h, _⟩ := h; rw [h]; rfl) | (obtain ⟨_, _, _, h, _⟩ := i_take h; rw [h]; rfl)) (fun ss cs Kp h => r_Lsides h)
    exact (okV F0 sclawk67 (fun ss st Kp h => by first | (obtain ⟨h, _⟩ := h; rw [h]; rfl) | (obtain ⟨_, h, _⟩ := h; rw [h]; rfl) | (obtain ⟨_, _, h, _⟩ := h; rw [h]; rfl) | (obtain ⟨_, _, _, h, _⟩ := h; rw [h]; rfl) | (obtain ⟨_, _, _, _, h, _⟩ := h; rw [h]; rfl) | (obtain ⟨_, _, _, _, _, h, _⟩ := h; rw [h]; rfl) | (obtain ⟨_, _, _, _, _, _, h, _⟩ := h; rw [h]; rfl) | (obtain ⟨_, _, _, _, _, _, _, h, _⟩ := h; rw [h]; rfl) | (obtain ⟨_, _, _, _, _, _, _, _, h, _⟩ := h; rw [h]; rfl) | (obtain ⟨_, _, _, _, _, _, _, _, _, h, _⟩ := h; rw [h]; rfl) | (obtain ⟨_, _, _, _, _, _, _, _, _, _, h, _⟩ := h; rw [h]; rfl) | (obtain ⟨_, _, _, _, _, _, _, _, _, _, _, h, _⟩ := h; rw [h]; rfl) | (obtain ⟨_, _, _, _, _, _, _, _, _, _, _, _, h, _⟩ := h; rw [h]; rfl) | (obtain ⟨_, _, _, _, _, _, _, _, _, _, _, _, _, h, _⟩ := h; rw [h]; rfl)) fun cdv A outer s H E hr => ⟨_, bd_lawk67 G_Lcasev4 (by omega) G_Lpool (by omega) G_Lsides (by omega) G_sidesof (by omega) G_standonce (by omega) B hr, fun ss cs Kp h => r_lawk67 h⟩).imp law_sp⟩
  · exact fun p hp => by
      obtain rfl := List.mem_singleton.mp hp
      exact T5.2
  · exact fun p hp => by
      obtain rfl := List.mem_singleton.mp hp
      exact n5
  · exact fun p hp => by
      obtain rfl := List.mem_singleton.mp hp
      exact T5.1
end Kf
open PySem PySem.W PyProof.Rows
set_option maxRecDepth 100000 in
set_option maxHeartbeats 0 in
theorem PySem.Challenge.cw_kindfill_k67_sides_holds : PySem.Challenge.rw_kindfill_k67_sides.Holds := by
  w_on; o_law; k_head; (case hw => w_witness2)
  k_fill
  refine Vl.walk_tabs (l := PySem.Challenge.rw_kindfill_k67_sides) (n := 63) (k := 40) (CX := fun _ => L2.CX0) (x := "_law_script") rfl (by decide) rfl ⟨rfl, by decide, by decide⟩ (fun w h Y => PySem.W.kIn_of Y) ?F (fun _ _ _ _ _ z => z)
  case F =>
    intro w mg fa h KX G hmg T
    refine' Kf.all_mk KX G hmg T ?a0 ?l0 ?c0 ?k0 ?a1 ?l1 ?c1 ?k1 ?a2 ?l2 ?c2 ?k2 ?a3 ?l3 ?c3 ?k3 ?a4 ?l4 ?c4 ?k4 ?a5 ?l5 ?c5 ?k5 ?r5 ?d5 ?j5 ?n5 ?a6 ?l6 ?c6 ?k6 ?a7 ?l7 ?c7 ?k7 ?zg_is_mark ?zg_is_numbered ?zg_read_spot ?zg_is_tree ?zg_has_form ?zg_has_form_worlds ?zg_which_live ?zg_row_lives ?zg_bars_by ?zg_room_above ?zg_sum_with ?zg_is_place ?zg_is_formed ?zg_drop_name ?zg_read_row ?zg_is_number ?z0 ?z1 ?z2 ?z3 ?z4 ?z5 ?z6 ?z7 ?z8 ?z9 ?z10 ?z11 ?z12 ?z13 ?z14 ?z15 ?z16 ?z17 ?z18 ?z19 ?z20 ?y0 ?y1
    (case a0 => k_is)
    (case l0 => k_is)
    (case c0 => k_is)
    (case k0 => k_is)
    (case a1 => k_is)
    (case l1 => k_is)
    (case c1 => k_is)
    (case k1 => k_is)
    (case a2 => k_is)
    (case l2 => k_is)
    (case c2 => k_is)
    (case k2 => k_is)
    (case a3 => k_is)
    (case l3 => k_is)
    (case c3 => k_is)
    (case k3 => k_is)
    (case a4 => k_is)
    (case l4 => k_is)
    (case c4 => k_is)
    (case k4 => k_is)
    (case a5 => k_is)
    (case l5 => k_is)
    (case c5 => k_is)
    (case k5 => k_is)
    (case r5 => first | decide +kernel | kernel_rfl)
    (case d5 => k_is)
    (case j5 => exact rfl)
    (case n5 => first | exact rfl | kernel_rfl | decide +kernel)
    (case a6 => k_is)
    (case l6 => k_is)
    (case c6 => k_is)
    (case k6 => k_is)
    (case a7 => k_is)
    (case l7 => k_is)
    (case c7 => k_is)
    (case k7 => k_is)
    (case zg_is_mark => k_is)
    (case zg_is_numbered => k_is)
    (case zg_read_spot => k_is)
    (case zg_is_tree => k_is)
    (case zg_has_form => k_is)
    (case zg_has_form_worlds => k_is)
    (case zg_which_live => k_is)
    (case zg_row_lives => k_is)
    (case zg_bars_by => k_is)
    (case zg_room_above => k_is)
    (case zg_sum_with => k_is)
    (case zg_is_place => k_is)
    (case zg_is_formed => k_is)
    (case zg_drop_name => k_is)
    (case zg_read_row => k_is)
    (case zg_is_number => k_is)
    (case z0 => k_is)
    (case z1 => k_is)
    (case z2 => k_is)
    (case z3 => k_is)
    (case z4 => k_is)
    (case z5 => k_is)
    (case z6 => k_is)
    (case z7 => k_is)
    (case z8 => k_is)
    (case z9 => k_is)
    (case z10 => k_is)
    (case z11 => k_is)
    (case z12 => k_is)
    (case z13 => k_is)
    (case z14 => k_is)
    (case z15 => k_is)
    (case z16 => k_is)
    (case z17 => k_is)
    (case z18 => k_is)
    (case z19 => k_is)
    (case z20 => k_is)
    (case y0 => k_is)
    (case y1 => k_is)
