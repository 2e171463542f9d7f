import PyProof.Rows.All
import Wide.All
import OpenK.AllK
import Wide.FinOn
import HandS.SetTxt0
import HandS.SetFor
import HandS.Strs
import KE.SortData
import HandS.Dict
import HandS.Call
import KE.KDictKeyed
import HandS.ForMost
import HandS.IsInst
import HandS.Flow
import HandS.Style
import HandS.Text
import HandS.AnyAll
import HandS.EndTab
import HandS.More
import HandS.Walk
import HandS.Codes
import HandS.NoneIn
import HandS.ForExc
import HandS.Zip
import HandS.Iter
import HandS.RevRange
import HandS.WideBits
import HandS.Star
import PyProof.NoPylong
import Flt.Len
import HandS.TupAny
import HandS.Deep
import HandS.ExcIs
import HandS.TryOnly
import KE.LtData
import KE.DataCmp
import KE.KDictLaws
import KE.KDictList
import HandS.DictComp
import HandS.FStr
import HandS.Small
import HandS.Rev
import PyProof.Rows.IntBool
import HandS.CallSlots
import HandS.Defaults
import HandS.CallLocal
import HandS.HotCalls
import PyProof.InstEq
import KE.KEqDict
import HandS.Finally
import HandS.GenList
import HandS.Nested
import PyProof.GenQ
import HandS.Conv
import HandS.Sort
import HandS.ListItems
import HandS.ExcInit
import HandS.ExcField
import KE.GoesMore
import PyProof.Draws
import PyProof.EnumMake
import KE.KExcIs
import HandS.ExcValue
import PyProof.EqKinds
import PyProof.NeKinds
import HandS.DictEq
import PyProof.StrBlock
import HandS.ReplaceLit
import HandS.ExcOwn
import HandS.Base
import PySem.Challenge.RW_kindfill_k54_spellings
set_option Elab.async false
set_option maxRecDepth 100000
set_option linter.all false
set_option autoImplicit false
namespace Vl
open PySem L2 PySem.Spec PyProof.Rows PySem.Froz
def kyS (e : Int × Value) : Str := match e.2 with
  | .str x _ => x
  | _ => Str.empty
/-- at a stands a set of the texts l, each once -/
structure TxR (P : Program) (w : World) (h : Heap) (a : Addr) (l : List Str) : Prop where
  at' : ∃ D : SD, h.get? a = some (sObj "set" D) ∧ TxOk P w D l ∧ (D.1.toList.map kyS).Perm l ∧ (∀ e ∈ D.1.toList, ∃ x t, e.2 = Value.str x t) ∧ Ris D.2.2.place.toList ∧ (w.params.followText "set-order" = true ∨ D.2.2.led = true)
  nd : l.Nodup
section
variable {P : Program} {w : World} {A : Around} {E : Value → Shared → Prop} {s : Shared} {a : Addr} {l : List Str}
theorem TxR.keep {h h' : Heap} (R : TxR P w h a l) (k : ∀ o, h.get? a = some o → h'.get? a = some o) : TxR P w h' a l := by
  obtain ⟨⟨D, h1, h2⟩, n⟩ := R
  exact ⟨⟨D, k _ h1, h2⟩, n⟩
end
end Vl
namespace Vl
open PySem L2 PySem.Spec PyProof.Rows
/-- the pairs and what stands in the dict's own object -/
def R3 (p : NestedKey × Addr × V) (q : NestedKey × Addr × Value) : Prop := p.1 = q.1 ∧ p.2.1 = q.2.1 ∧ RelV p.2.2 q.2.2
def MtE (w : World) (a : Addr) (xs : List (NestedKey × Addr × V)) (h : Heap) : Prop :=
  xs.length ≤ sizeLine ∧ (a == sysModules) = false ∧ (xs.map (·.1)).Nodup ∧ ∃ (us : List (NestedKey × Addr × Value)) (o : Obj) (es : Array DictEntry) (ep : Nat), Paired R3 xs us ∧ h.get? a = some o ∧ o.ExactDict ∧ o.data = .dict es ep ∧
    es.toList = us.map fun x => ⟨x.1.hash w, .ref x.2.1, x.2.2⟩
def valN (xs : List (NestedKey × Addr × V)) (k : NestedKey) : Option V := (xs.find? fun x => decide (x.1 = k)).map (·.2.2)
def putN (xs : List (NestedKey × Addr × V)) (k : NestedKey) (b : Addr) (v : V) : List (NestedKey × Addr × V) :=
  if (valN xs k).isSome then xs.map (fun x => if x.1 = k then (x.1, x.2.1, v) else x) else xs ++ [(k, b, v)]
theorem R3.keys : ∀ {xs : List (NestedKey × Addr × V)} {us : List (NestedKey × Addr × Value)}, Paired R3 xs us → xs.map (·.1) = us.map (·.1)
  | _, _, .nil => rfl
  | _, _, .cons r t => by rw [List.map_cons, List.map_cons, r.1, R3.keys t]
theorem R3.val {k : NestedKey} : ∀ {xs : List (NestedKey × Addr × V)} {us : List (NestedKey × Addr × Value)}, Paired R3 xs us → RelO (valN xs k) ((atKey us k).map (·.2))
  | _, _, .nil => trivial
  | x :: xs, u :: us, .cons r t => by
    unfold valN atKey
    by_cases h : x.1 = k
    · have h' : u.1 = k := by rw [← r.1]; exact h
      rw [List.find?_cons_of_pos (by simpa using h), List.find?_cons_of_pos (by simpa using h')]
      exact r.2.2
    · have h' : ¬ u.1 = k := by rw [← r.1]; exact h
      rw [List.find?_cons_of_neg (by simpa using h), List.find?_cons_of_neg (by simpa using h')]
      exact R3.val t
theorem R3.mapPut {k : NestedKey} {v : V} {u : Value} (rv : RelV v u) : ∀ {xs : List (NestedKey × Addr × V)} {us : List (NestedKey × Addr × Value)}, Paired R3 xs us → Paired R3 (xs.map fun x => if x.1 = k then (x.1, x.2.1, v) else x) (us.map (putAt k u))
  | _, _, .nil => .nil
  | x :: xs, y :: us, .cons r t => by
    rw [List.map_cons, List.map_cons]
    refine .cons ?_ (R3.mapPut rv t)
    unfold putAt
    by_cases h : x.1 = k
    · have h' : y.1 = k := by rw [← r.1]; exact h
      rw [if_pos h, if_pos h']
      exact ⟨r.1, r.2.1, rv⟩
    · have h' : ¬ y.1 = k := by rw [← r.1]; exact h
      rw [if_neg h, if_neg h']
      exact r
theorem R3.app : ∀ {xs ys : List (NestedKey × Addr × V)} {us ws : List (NestedKey × Addr × Value)}, Paired R3 xs us → Paired R3 ys ws → Paired R3 (xs ++ ys) (us ++ ws)
  | _, _, _, _, .nil, q => q
  | _, _, _, _, .cons r t, q => .cons r (R3.app t q)
theorem R3.isSome {k : NestedKey} {xs : List (NestedKey × Addr × V)} {us : List (NestedKey × Addr × Value)} (h : Paired R3 xs us) : (valN xs k).isSome = (atKey us k).isSome := by
  have r := R3.val (k := k) h
  cases h1 : valN xs k with
  | none =>
    rw [h1] at r
    cases h2 : atKey us k with
    | none => rfl
    | some p =>
      rw [h2] at r
      exact r.elim
  | some v =>
    rw [h1] at r
    cases h2 : atKey us k with
    | none =>
      rw [h2] at r
      exact r.elim
    | some p => rfl
theorem R3.put {k : NestedKey} {b : Addr} {v : V} {u : Value} (rv : RelV v u) {xs : List (NestedKey × Addr × V)} {us : List (NestedKey × Addr × Value)} (h : Paired R3 xs us) : Paired R3 (putN xs k b v) (storedH us k b u) := by
  unfold putN storedH
  rw [R3.isSome h]
  split
  · exact R3.mapPut rv h
  · exact R3.app h (.cons ⟨rfl, rfl, rv⟩ .nil)
end Vl
namespace Vl
open PySem L2
abbrev D := PyData
/-- what a name holds: data; the j-th list of the store; a list that is only read -/
inductive Sl where
  | val (d : D)
  | obj (j : Nat)
  | kn (ds : List D)
  | exc (a : Addr)
/-- what stands in the store: a list; a dict of data; a dict whose values are lists of the store; a dict while it is walked; a list or a tuple of things; an instance whose fields change; the j-th thing itself: a dict whose keys are tuples within tuples -/
inductive Ob where
  | l (ds : List D)
  | m (kvs : List (L2.Key × D))
  | mo (kvs : List (L2.Key × Nat))
  | lk (od : Obj) (vs : List (L2.Key × V)) (kvs : List (L2.Key × D))
  | sq (t : Bool) (ss : List Sl)
  | ins (nm : Str) (fs : List (Str × Sl))
  | mt (w : World) (j : Nat) (kvs : List (NestedKey × D))
/-- names and the store (none: given away) -/
structure En where
  sl : List (Option Sl)
  st : List (Option Ob)
mutual
inductive At (K : PySem.W.Frag) (F : Hp) : D → V → Prop
  | non : At K F .none .non
  | bl (b : Bool) : At K F (.bool b) (.bl b)
  | int (i : Int) : At K F (.int i) (.int i)
  | str (x : Str) : At K F (.str x) (.str x)
  | lst {a : Addr} {xs : List V} {ds : List D} : F a = some (.lst xs) → AtL K F ds xs → At K F (.list ds) (.ref a)
  | tup {a : Addr} {xs : List V} {ds : List D} : SqT K F a xs → AtL K F ds xs → At K F (.tuple ds) (.ref a)
  | dct {a : Addr} : F a = some (.dK []) → At K F (.dict []) (.ref a)
  | rcd {a dx C : Addr} {nm : Str} {fs : List (Str × V)} {kvs : List (D × D)} : PySem.W.nsIn K mainGlobals nm = some (some (.ref C)) → F a = some (.ins C dx fs) → F dx = some (.own a) → kvs.map (·.1) = fs.map (fun p => PyData.str p.1) → AtL K F (kvs.map (·.2)) (fs.map (·.2)) → At K F (.dict ((.str nm, .none) :: kvs)) (.ref a)
inductive AtL (K : PySem.W.Frag) (F : Hp) : List D → List V → Prop
  | nil : AtL K F [] []
  | cons {d : D} {ds : List D} {v : V} {vs : List V} : At K F d v → AtL K F ds vs → AtL K F (d :: ds) (v :: vs)
end
/-- what stood stands -/
def Le (F G : Hp) : Prop := ∀ b o, F b = some o → G b = some o
theorem Le.refl (F : Hp) : Le F F := fun _ _ e => e
theorem Le.trans {F G H : Hp} (a : Le F G) (b : Le G H) : Le F H := fun c o e => b c o (a c o e)
theorem Le.new {F : Hp} {p : Addr} {o : HO} (h : F p = none) : Le F (upd F p o) := fun b u e => by
  rw [upd_ne (ne_of_none e h)]
  exact e
theorem Le.free {F G : Hp} {p : Addr} (s : Le F G) (h : G p = none) : F p = none := by
  cases e : F p with
  | none => rfl
  | some o =>
    rw [s p o e] at h
    cases h
section
variable {K : PySem.W.Frag} {F G : Hp}
theorem sqT_le (s : Le F G) {a : Addr} {xs : List V} (h : SqT K F a xs) : SqT K G a xs := by
  rcases h with (h | ⟨o, h⟩) | h
  · exact .inl (.inl (s _ _ h))
  · exact .inl (.inr ⟨o, s _ _ h⟩)
  · exact .inr h
theorem sqL_le (s : Le F G) {a : Addr} {xs : List V} (h : SqL K F a xs) : SqL K G a xs := by
  rcases h with (h | ⟨o, h⟩) | h
  · exact .inl (.inl (s _ _ h))
  · exact .inl (.inr ⟨o, s _ _ h⟩)
  · exact .inr h
mutual
theorem At.le' (s : Le F G) : ∀ {d : D} {v : V}, At K F d v → At K G d v
  | _, _, .non => .non
  | _, _, .bl b => .bl b
  | _, _, .int i => .int i
  | _, _, .str x => .str x
  | _, _, .lst h1 h2 => .lst (s _ _ h1) (AtL.le' s h2)
  | _, _, .tup h1 h2 => .tup (sqT_le s h1) (AtL.le' s h2)
  | _, _, .dct h1 => .dct (s _ _ h1)
  | _, _, .rcd h0 h1 h2 h3 h4 => .rcd h0 (s _ _ h1) (s _ _ h2) h3 (AtL.le' s h4)
theorem AtL.le' (s : Le F G) : ∀ {ds : List D} {vs : List V}, AtL K F ds vs → AtL K G ds vs
  | _, _, .nil => .nil
  | _, _, .cons h1 h2 => .cons (At.le' s h1) (AtL.le' s h2)
end
theorem At.le (s : Le F G) (d : D) (v : V) (h : At K F d v) : At K G d v := At.le' s h
theorem AtL.le (s : Le F G) (ds : List D) (vs : List V) (h : AtL K F ds vs) : AtL K G ds vs := AtL.le' s h
theorem can_all1 {x : D} {xs : List D} (h : PyData.canLayAll0 (x :: xs) = true) : PyData.canLay0 x = true ∧ PyData.canLayAll0 xs = true := by
  rw [PyData.canLayAll0, Bool.and_eq_true] at h
  exact h
mutual
theorem At.dp (s : Le F G) : ∀ (d : D) (v : V), PyData.canLay0 d = true → At K F d v → Dp K G v d
  | .none, _, _, h => by
    cases h
    exact .non
  | .bool b, _, _, h => by
    cases h
    exact .bl b
  | .int i, _, _, h => by
    cases h
    exact .int i
  | .str x, _, _, h => by
    cases h
    exact .str x
  | .list ds, _, c, h => by
    cases h with
    | lst h1 h2 => exact .lst (SqL.of (s _ _ h1)) (AtL.dp s ds _ (by rw [PyData.canLay0] at c; exact c) h2)
  | .tuple ds, _, c, h => by
    cases h with
    | tup h1 h2 => exact .tup (sqT_le s h1) (AtL.dp s ds _ (by rw [PyData.canLay0] at c; exact c) h2)
  | .dict _, _, c, h => by
    rw [PyData.canLay0] at c
    cases c
theorem AtL.dp (s : Le F G) : ∀ (ds : List D) (vs : List V), PyData.canLayAll0 ds = true → AtL K F ds vs → DpAll K G vs ds
  | [], _, _, h => by
    cases h
    exact .nil
  | d :: ds, _, c, h => by
    cases h with
    | cons h1 h2 => exact .cons (At.dp s d _ (can_all1 c).1 h1) (AtL.dp s ds _ (can_all1 c).2 h2)
end
theorem AtL.len {ds : List D} {vs : List V} (h : AtL K F ds vs) : vs.length = ds.length := by
  induction ds generalizing vs with
  | nil =>
    cases h
    rfl
  | cons d ds ih =>
    cases h with
    | cons h1 h2 => simp [ih h2]
theorem AtL.app {ds es : List D} {vs us : List V} (h : AtL K F ds vs) (g : AtL K F es us) : AtL K F (ds ++ es) (vs ++ us) := by
  induction ds generalizing vs with
  | nil =>
    cases h
    exact g
  | cons d ds ih =>
    cases h with
    | cons h1 h2 => exact .cons h1 (ih h2)
theorem AtL.one {d : D} {v : V} (h : At K F d v) : AtL K F [d] [v] := .cons h .nil
theorem AtL.get {ds : List D} {vs : List V} {i : Nat} {d : D} (h : AtL K F ds vs) (e : ds[i]? = some d) : ∃ v, vs[i]? = some v ∧ At K F d v := by
  induction ds generalizing vs i with
  | nil => simp at e
  | cons c ds ih =>
    cases h with
    | cons h1 h2 =>
      cases i with
      | zero =>
        simp at e
        exact ⟨_, rfl, e ▸ h1⟩
      | succ i => exact ih (i := i) h2 (by simpa using e)
theorem AtL.set {ds : List D} {vs : List V} {d : D} {v : V} (g : At K F d v) (j : Nat) (h : AtL K F ds vs) : AtL K F (ds.set j d) (vs.set j v) := by
  induction ds generalizing vs j with
  | nil =>
    cases h
    exact .nil
  | cons c ds ih =>
    cases h with
    | cons h1 h2 =>
      cases j with
      | zero => exact .cons g h2
      | succ j => exact .cons h1 (ih j h2)
theorem AtL.take {ds : List D} {vs : List V} (n : Nat) (h : AtL K F ds vs) : AtL K F (ds.take n) (vs.take n) := by
  induction ds generalizing vs n with
  | nil =>
    cases h
    simp
    exact .nil
  | cons c ds ih =>
    cases h with
    | cons h1 h2 =>
      cases n with
      | zero => exact .nil
      | succ n => exact .cons h1 (ih n h2)
theorem AtL.drop {ds : List D} {vs : List V} (n : Nat) (h : AtL K F ds vs) : AtL K F (ds.drop n) (vs.drop n) := by
  induction ds generalizing vs n with
  | nil =>
    cases h
    simp
    exact .nil
  | cons c ds ih =>
    cases h with
    | cons h1 h2 =>
      cases n with
      | zero => exact .cons h1 h2
      | succ n => exact ih n h2
theorem AtL.dropLast {ds : List D} {vs : List V} (h : AtL K F ds vs) : AtL K F ds.dropLast vs.dropLast := by
  rw [List.dropLast_eq_take, List.dropLast_eq_take, h.len]
  exact h.take _
end
/-- a name's value -/
def SlAt (K : PySem.W.Frag) (F : Hp) (A : List Addr) (v : V) : Sl → Prop
  | .val d => At K F d v
  | .obj j => ∃ a, A[j]? = some a ∧ v = .ref a
  | .kn ds => ∃ a xs, v = .ref a ∧ SqL K F a xs ∧ AtL K F ds xs
  | .exc a => v = .ref a
theorem SlAt.le {K : PySem.W.Frag} {F G : Hp} {A B : List Addr} (s : Le F G) (p : A <+: B) {v : V} : ∀ {x : Sl}, SlAt K F A v x → SlAt K G B v x
  | .val d, h => At.le s d v h
  | .obj j, ⟨a, e, h⟩ => ⟨a, by
      obtain ⟨t, rfl⟩ := p
      have hj := (List.getElem?_eq_some_iff.mp e).1
      rw [List.getElem?_append_left hj]
      exact e, h⟩
  | .kn ds, ⟨a, xs, e, h1, h2⟩ => ⟨a, xs, e, sqL_le s h1, AtL.le s ds xs h2⟩
  | .exc _, h => h
inductive SlAts (K : PySem.W.Frag) (F : Hp) (A : List Addr) : List V → List Sl → Prop
  | nil : SlAts K F A [] []
  | cons {v : V} {vs : List V} {s : Sl} {ss : List Sl} : SlAt K F A v s → SlAts K F A vs ss → SlAts K F A (v :: vs) (s :: ss)
theorem SlAts.le {K : PySem.W.Frag} {F G : Hp} {A B : List Addr} (s : Le F G) (p : A <+: B) {vs : List V} {ss : List Sl} (h : SlAts K F A vs ss) : SlAts K G B vs ss := by
  induction h with
  | nil => exact .nil
  | cons h _ ih => exact .cons (h.le s p) ih
theorem SlAts.len {K : PySem.W.Frag} {F : Hp} {A : List Addr} {vs : List V} {ss : List Sl} (h : SlAts K F A vs ss) : vs.length = ss.length := by
  induction h with
  | nil => rfl
  | cons h _ ih => simp [ih]
/-- a dict's pairs -/
inductive KvAt (K : PySem.W.Frag) (F : Hp) : List (L2.Key × D) → List (L2.Key × V) → Prop
  | nil : KvAt K F [] []
  | cons {k : L2.Key} {d : D} {v : V} {kvs : List (L2.Key × D)} {vs : List (L2.Key × V)} : At K F d v → KvAt K F kvs vs → KvAt K F ((k, d) :: kvs) ((k, v) :: vs)
theorem KvAt.le {K : PySem.W.Frag} {F G : Hp} (s : Le F G) {kvs : List (L2.Key × D)} {vs : List (L2.Key × V)} (h : KvAt K F kvs vs) : KvAt K G kvs vs := by
  induction h with
  | nil => exact .nil
  | cons h _ ih => exact .cons (At.le s _ _ h) ih
inductive MoAt (A : List Addr) : List (L2.Key × Nat) → List (L2.Key × V) → Prop
  | nil : MoAt A [] []
  | cons {k : L2.Key} {j : Nat} {a : Addr} {kvs : List (L2.Key × Nat)} {vs : List (L2.Key × V)} : A[j]? = some a → MoAt A kvs vs → MoAt A ((k, j) :: kvs) ((k, .ref a) :: vs)
theorem pfx_get {A B : List Addr} (p : A <+: B) {j : Nat} {a : Addr} (e : A[j]? = some a) : B[j]? = some a := by
  obtain ⟨t, rfl⟩ := p
  have hj := (List.getElem?_eq_some_iff.mp e).1
  rw [List.getElem?_append_left hj]
  exact e
theorem MoAt.le {A B : List Addr} (p : A <+: B) {kvs : List (L2.Key × Nat)} {vs : List (L2.Key × V)} (h : MoAt A kvs vs) : MoAt B kvs vs := by
  induction h with
  | nil => exact .nil
  | cons h _ ih => exact .cons (pfx_get p h) ih
inductive KmAt (K : PySem.W.Frag) (F : Hp) : List (NestedKey × D) → List (NestedKey × Addr × V) → Prop
  | nil : KmAt K F [] []
  | cons {k : NestedKey} {b : Addr} {d : D} {v : V} {kvs : List (NestedKey × D)} {xs : List (NestedKey × Addr × V)} : At K F k.data (.ref b) → k.depth ≤ 8 → At K F d v → KmAt K F kvs xs → KmAt K F ((k, d) :: kvs) ((k, b, v) :: xs)
theorem KmAt.le {K : PySem.W.Frag} {F G : Hp} (s : Le F G) {kvs : List (NestedKey × D)} {xs : List (NestedKey × Addr × V)} (h : KmAt K F kvs xs) : KmAt K G kvs xs := by
  induction h with
  | nil => exact .nil
  | cons h1 hd h2 _ ih => exact .cons (At.le s _ _ h1) hd (At.le s _ _ h2) ih
/-- a thing of the store, by what stands at its address -/
def ObAt (K : PySem.W.Frag) (F : Hp) (A : List Addr) (h : Option HO) : Ob → Prop
  | .l ds => ∃ xs, h = some (.lst xs) ∧ AtL K F ds xs
  | .m kvs => ∃ vs, h = some (.dK vs) ∧ KvAt K F kvs vs
  | .mo kvs => ∃ vs, h = some (.dK vs) ∧ MoAt A kvs vs
  | .lk od vs kvs => h = some (.frz od (.dK vs)) ∧ KvAt K F kvs vs
  | .sq t ss => ∃ vs, h = some (if t = true then .tup vs else .lst vs) ∧ SlAts K F A vs ss
  | .ins nm fs => ∃ (C dx : Addr) (vs : List (Str × V)), h = some (.ins C dx vs) ∧ PySem.W.nsIn K mainGlobals nm = some (some (.ref C)) ∧ vs.map (·.1) = fs.map (·.1) ∧ SlAts K F A (vs.map (·.2)) (fs.map (·.2))
  | .mt w j kvs => ∃ (a : Addr) (xs : List (NestedKey × Addr × V)), h = some (.ext (MtE w a xs)) ∧ A[j]? = some a ∧ KmAt K F kvs xs
theorem ObAt.le {K : PySem.W.Frag} {F G : Hp} {A B : List Addr} {h h' : Option HO} (s : Le F G) (p : A <+: B) (k : ∀ o, h = some o → h' = some o) : ∀ {ob : Ob}, ObAt K F A h ob → ObAt K G B h' ob
  | .l ds, ⟨xs, e, a⟩ => ⟨xs, k _ e, AtL.le s _ _ a⟩
  | .m kvs, ⟨vs, e, a⟩ => ⟨vs, k _ e, a.le s⟩
  | .mo kvs, ⟨vs, e, a⟩ => ⟨vs, k _ e, a.le p⟩
  | .lk od vs kvs, ⟨e, a⟩ => ⟨k _ e, a.le s⟩
  | .sq t ss, ⟨vs, e, a⟩ => ⟨vs, k _ e, a.le s p⟩
  | .ins nm fs, ⟨C, dx, vs, e, h1, h2, a⟩ => ⟨C, dx, vs, k _ e, h1, h2, a.le s p⟩
  | .mt w j kvs, ⟨a, xs, e, h1, h2⟩ => ⟨a, xs, k _ e, pfx_get p h1, h2.le s⟩
theorem ObAt.some {K : PySem.W.Frag} {F : Hp} {A : List Addr} {h : Option HO} : ∀ {ob : Ob}, ObAt K F A h ob → ∃ o, h = Option.some o
  | .l ds, ⟨xs, e, a⟩ => ⟨_, e⟩
  | .m kvs, ⟨vs, e, a⟩ => ⟨_, e⟩
  | .mo kvs, ⟨vs, e, a⟩ => ⟨_, e⟩
  | .lk od vs kvs, ⟨e, a⟩ => ⟨_, e⟩
  | .sq t ss, ⟨vs, e, a⟩ => ⟨_, e⟩
  | .ins nm fs, ⟨C, dx, vs, e, _⟩ => ⟨_, e⟩
  | .mt w j kvs, ⟨a, xs, e, _⟩ => ⟨_, e⟩
def genNames : List Str := ["is_mark", "is_numbered", "read_spot", "is_tree", "has_form", "which_live", "row_lives", "bars_by", "room_above", "sum_with", "is_place", "is_formed", "stand_once", "drop_name", "read_row", "is_number"]
/-- such a def's code object and its table -/
def TbAt (K : PySem.W.Frag) (nm : Str) (c P : Addr) : Prop := ∃ (f : Addr) (oc : Value) (od : Option Addr) (fd : FuncData) (sl : Array (Option Value)) (e : Value) (dd : Option Addr) (vs : Array Value) (sx : Array (Option Value)),
  PySem.W.nsIn K mainGlobals nm = some (some (.ref f)) ∧ K.lookup f = some ⟨oc, od, .func fd, sl⟩ ∧ fd.code = .ref c ∧ K.lookup c = some ⟨e, dd, .fields vs, sx⟩ ∧ vs[11]? = some (.ref P)
/-- a name under which two defs stand counts where the second one does -/
def GenAt (K : PySem.W.Frag) (nm : Str) : Prop := nm = "has_form" → ∃ v, PySem.W.nsIn K mainGlobals "is_tree" = some (some v)
def TbK (K : PySem.W.Frag) (P : Addr) : Prop := ∃ nm ∈ genNames, GenAt K nm ∧ ∃ c, TbAt K nm c P
/-- the tables stand apart from all else -/
structure Tbs (K : PySem.W.Frag) (R F H : Hp) (A : List Addr) : Prop where
  of : ∀ P, TbK K P → GxR.TabG H P ∧ F P = none ∧ R P = none ∧ P ∉ A
theorem Tbs.mk' {K : PySem.W.Frag} {R F H R' F' H' : Hp} {A A' : List Addr} (t : Tbs K R F H A) (h : ∀ P ps, H P = some (.tbl ps) → F P = none → R P = none → P ∉ A → H' P = H P ∧ F' P = none ∧ R' P = none ∧ P ∉ A') : Tbs K R' F' H' A' := ⟨fun P hP => by
  obtain ⟨⟨ps, h1, h2⟩, h3, h4, h5⟩ := t.of P hP
  obtain ⟨g1, g2, g3, g4⟩ := h P ps h1 h3 h4 h5
  exact ⟨⟨ps, g1.trans h1, h2⟩, g2, g3, g4⟩⟩
theorem tbl_ne {H : Hp} {P p : Addr} {ps : Array Value} (h : H P = some (.tbl ps)) (hp : H p = none) : P ≠ p := fun e => by
  rw [e, hp] at h
  cases h
section
variable {K : PySem.W.Frag} {R F H : Hp} {A : List Addr} {p a : Addr} {o o' : HO}
theorem Tbs.fresh (t : Tbs K R F H A) (hp : H p = none) : Tbs K R (upd F p o) (upd H p o) A := t.mk' fun P ps h f r n => ⟨upd_ne (tbl_ne h hp), (upd_ne (tbl_ne h hp)).trans f, r, n⟩
theorem Tbs.alloc (t : Tbs K R F H A) (hp : H p = none) : Tbs K R F (upd H p o) (A ++ [p]) := t.mk' fun P ps h f r n => ⟨upd_ne (tbl_ne h hp), f, r, fun z => by
  rcases List.mem_append.mp z with z | z
  · exact n z
  · exact tbl_ne h hp (List.mem_singleton.mp z)⟩
theorem Tbs.write (t : Tbs K R F H A) (ha : a ∈ A) : Tbs K R F (upd H a o) A := t.mk' fun P ps h f r n => ⟨upd_ne fun z : P = a => n (by rw [z]; exact ha), f, r, n⟩
theorem Tbs.freeze (t : Tbs K R F H A) (ha : a ∈ A) : Tbs K R (upd F a o) H A := t.mk' fun P ps h f r n => ⟨rfl, (upd_ne fun z : P = a => n (by rw [z]; exact ha)).trans f, r, n⟩
theorem Tbs.sub {A' : List Addr} (t : Tbs K R F H A) (h : ∀ a ∈ A', a ∈ A) : Tbs K R F H A' := t.mk' fun P ps g f r n => ⟨rfl, f, r, fun z => n (h P z)⟩
theorem Tbs.hold (t : Tbs K R F H A) (hp : H p = none) : Tbs K (upd R p o) F (upd H p o) A := t.mk' fun P ps h f r n => ⟨upd_ne (tbl_ne h hp), f, (upd_ne (tbl_ne h hp)).trans r, n⟩
theorem upd_none {p P : Addr} {o : HO} (h : upd R p o P = none) : P ≠ p := fun e => by
  rw [e, upd_same] at h
  cases h
theorem Tbs.rehold (t : Tbs K (upd R p o) F H A) : Tbs K (upd R p o') F (upd H p o') A := t.mk' fun P ps h f r n => by
  have ne := upd_none r
  rw [upd_ne ne] at r
  exact ⟨upd_ne ne, f, (upd_ne ne).trans r, n⟩
theorem Tbs.give (t : Tbs K (upd R p o) F H A) : Tbs K R (upd F p o) H A := t.mk' fun P ps h f r n => by
  have ne := upd_none r
  rw [upd_ne ne] at r
  exact ⟨rfl, (upd_ne ne).trans f, r, n⟩
theorem Tbs.giveOb (t : Tbs K (upd R p o) F H A) : Tbs K R F H (A ++ [p]) := t.mk' fun P ps h f r n => by
  have ne := upd_none r
  rw [upd_ne ne] at r
  exact ⟨rfl, f, r, fun z => by
    rcases List.mem_append.mp z with z | z
    · exact n z
    · exact ne (List.mem_singleton.mp z)⟩
theorem Tbs.adopt (t : Tbs K R F H A) (h : H p = some o) (no : ∀ ps, o ≠ .tbl ps) : Tbs K (upd R p o) F H A := t.mk' fun P ps g f r n => by
  have ne : P ≠ p := fun e => by
    rw [e, h] at g
    exact no ps (Option.some.inj g)
  exact ⟨rfl, f, (upd_ne ne).trans r, n⟩
end
/-- how names, store and heap stand: F what stands still, R what the callers keep, A where the store's lists lie -/
structure Rep (K : PySem.W.Frag) (R F : Hp) (A : List Addr) (σ : List (Option V)) (H : Hp) (e : En) : Prop where
  sub : Le F H
  keep : Le R H
  apart : ∀ a o, R a = some o → F a = none ∧ a ∉ A
  len : e.sl.length = σ.length
  lenA : e.st.length = A.length
  nodup : A.Nodup
  live : ∀ a ∈ A, ∃ o, H a = some o
  slot : ∀ (i : Nat) (s : Sl), e.sl[i]? = some (some s) → ∃ v, σ[i]? = some (some v) ∧ SlAt K F A v s
  store : ∀ (j : Nat) (ob : Ob), e.st[j]? = some (some ob) → ∃ a, A[j]? = some a ∧ F a = none ∧ ObAt K F A (H a) ob
  tabs : Tbs K R F H A
section
variable {K : PySem.W.Frag} {R F : Hp} {A : List Addr} {σ : L2.St} {H : Hp} {e : En}
theorem Rep.lst (r : Rep K R F A σ H e) {j : Nat} {ds : List D} (h : e.st[j]? = some (some (.l ds))) : ∃ a xs, A[j]? = some a ∧ F a = none ∧ H a = some (.lst xs) ∧ AtL K F ds xs := by
  obtain ⟨a, h1, h2, xs, h3, h4⟩ := r.store j _ h
  exact ⟨a, xs, h1, h2, h3, h4⟩
theorem pfx_refl (A : List Addr) : A <+: A := List.prefix_refl A
theorem nodup_at {A : List Addr} (h : A.Nodup) {i j : Nat} {a : Addr} (e : A[i]? = some a) (f : A[j]? = some a) : i = j := by
  obtain ⟨hi, ei⟩ := List.getElem?_eq_some_iff.mp e
  obtain ⟨hj, ej⟩ := List.getElem?_eq_some_iff.mp f
  exact (List.getElem_inj h).mp (ei.trans ej.symm)
/-- a new thing that stands still -/
theorem Rep.fresh (r : Rep K R F A σ H e) {p : Addr} (hp : H p = none) (o : HO) : Rep K R (upd F p o) A σ (upd H p o) e ∧ Le F (upd F p o) := by
  have hF : F p = none := r.sub.free hp
  have hR : R p = none := r.keep.free hp
  have hA : p ∉ A := fun hm => by
    obtain ⟨o, ho⟩ := r.live p hm
    rw [ho] at hp
    cases hp
  have l := Le.new (o := o) hF
  have l2 := Le.new (o := o) hp
  refine ⟨⟨fun b u z => ?_, Le.trans r.keep l2, fun a u z => ⟨?_, (r.apart a u z).2⟩, r.len, r.lenA, r.nodup, fun a ha => ?_, fun i s z => ?_, fun j ds z => ?_, r.tabs.fresh hp⟩, l⟩
  · by_cases hb : b = p
    · subst hb
      rw [upd_same] at z ⊢
      exact z
    · rw [upd_ne hb] at z ⊢
      exact r.sub _ _ z
  · rw [upd_ne (fun q => by rw [q, hR] at z; cases z)]
    exact (r.apart a u z).1
  · obtain ⟨u, hu⟩ := r.live a ha
    exact ⟨u, l2 _ _ hu⟩
  · obtain ⟨v, h1, h2⟩ := r.slot i s z
    exact ⟨v, h1, h2.le l (pfx_refl A)⟩
  · obtain ⟨a, h1, h2, h3⟩ := r.store j ds z
    refine ⟨a, h1, ?_, h3.le l (pfx_refl A) fun u e => l2 _ _ e⟩
    have n : a ≠ p := fun q => hA (by rw [← q]; exact List.mem_of_getElem? h1)
    rw [upd_ne n]
    exact h2
/-- a new thing of the store -/
theorem Rep.allocO (r : Rep K R F A σ H e) {p : Addr} (hp : H p = none) {o : HO} {ob : Ob} (hx : ObAt K F (A ++ [p]) (some o) ob) : Rep K R F (A ++ [p]) σ (upd H p o) ⟨e.sl, e.st ++ [some ob]⟩ ∧ A <+: A ++ [p] := by
  have hF : F p = none := r.sub.free hp
  have hR : R p = none := r.keep.free hp
  have hA : p ∉ A := fun hm => by
    obtain ⟨o, ho⟩ := r.live p hm
    rw [ho] at hp
    cases hp
  have l2 := Le.new (o := o) hp
  have pf : A <+: A ++ [p] := ⟨[p], rfl⟩
  refine ⟨⟨Le.trans r.sub l2, Le.trans r.keep l2, fun a u z => ⟨(r.apart a u z).1, fun hm => ?_⟩, r.len, ?_, ?_, fun a ha => ?_, fun i s z => ?_, fun j cs z => ?_, r.tabs.alloc hp⟩, pf⟩
  · rcases List.mem_append.mp hm with hm | hm
    · exact (r.apart a u z).2 hm
    · rw [List.mem_singleton.mp hm, hR] at z
      cases z
  · simp [r.lenA]
  · rw [List.nodup_append]
    exact ⟨r.nodup, by simp, fun a ha b hb q => hA (by rw [List.mem_singleton.mp hb] at q; exact q ▸ ha)⟩
  · rcases List.mem_append.mp ha with ha | ha
    · obtain ⟨u, hu⟩ := r.live a ha
      exact ⟨u, l2 _ _ hu⟩
    · rw [List.mem_singleton.mp ha]
      exact ⟨_, upd_same⟩
  · obtain ⟨v, h1, h2⟩ := r.slot i s z
    exact ⟨v, h1, h2.le (Le.refl F) pf⟩
  · have z' : (e.st ++ [some ob])[j]? = some (some cs) := z
    by_cases hj : j < e.st.length
    · rw [List.getElem?_append_left hj] at z'
      obtain ⟨a, h1, h2, h3⟩ := r.store j cs z'
      exact ⟨a, pfx_get pf h1, h2, h3.le (Le.refl F) pf fun u e => l2 _ _ e⟩
    · rw [List.getElem?_append_right (by omega)] at z'
      have hj0 : j - e.st.length = 0 := by
        rcases Nat.eq_zero_or_pos (j - e.st.length) with q | q
        · exact q
        · rw [List.getElem?_eq_none (by simp; omega)] at z'
          cases z'
      rw [hj0] at z'
      simp at z'
      subst z'
      refine ⟨p, ?_, hF, ?_⟩
      · rw [List.getElem?_append_right (by rw [← r.lenA]; omega), ← r.lenA, hj0] <;> rfl
      · rw [upd_same]
        exact hx
theorem Rep.alloc (r : Rep K R F A σ H e) {p : Addr} (hp : H p = none) {xs : List V} {ds : List D} (hx : AtL K F ds xs) : Rep K R F (A ++ [p]) σ (upd H p (.lst xs)) ⟨e.sl, e.st ++ [some (.l ds)]⟩ ∧ A <+: A ++ [p] := r.allocO hp (o := .lst xs) (ob := .l ds) ⟨xs, rfl, hx⟩
/-- the j-th thing of the store is changed -/
theorem Rep.writeO (r : Rep K R F A σ H e) {j : Nat} {a : Addr} {ob : Ob} (hj : A[j]? = some a) (hl : e.st[j]? = some (some ob)) {o : HO} {ob' : Ob} (hx : ObAt K F A (some o) ob') :
    Rep K R F A σ (upd H a o) ⟨e.sl, e.st.set j (some ob')⟩ := by
  obtain ⟨a', e1, hF, hH⟩ := r.store j ob hl
  rw [hj] at e1
  cases e1
  have hjl : j < e.st.length := (List.getElem?_eq_some_iff.mp hl).1
  have hm : a ∈ A := List.mem_of_getElem? hj
  refine ⟨fun b u z => ?_, fun b u z => ?_, r.apart, r.len, by simp [r.lenA], r.nodup, fun b hb => ?_, r.slot, fun i cs z => ?_, r.tabs.write hm⟩
  · rw [upd_ne (fun q => by rw [q, hF] at z; cases z)]
    exact r.sub _ _ z
  · have n : b ≠ a := fun q => (r.apart b u z).2 (by rw [q]; exact hm)
    rw [upd_ne n]
    exact r.keep _ _ z
  · by_cases q : b = a
    · subst q
      exact ⟨_, upd_same⟩
    · rw [upd_ne q]
      exact r.live b hb
  · have z' : (e.st.set j (some ob'))[i]? = some (some cs) := z
    by_cases q : i = j
    · subst q
      rw [List.getElem?_set_self hjl] at z'
      cases z'
      exact ⟨a, hj, hF, by rw [upd_same]; exact hx⟩
    · rw [List.getElem?_set_ne (Ne.symm q)] at z'
      obtain ⟨b, h1, h2, h3⟩ := r.store i cs z'
      have n : b ≠ a := fun w => q (nodup_at r.nodup (by rw [← w]; exact h1) hj)
      exact ⟨b, h1, h2, by rw [upd_ne n]; exact h3⟩
theorem Rep.write (r : Rep K R F A σ H e) {j : Nat} {a : Addr} {ds : List D} (hj : A[j]? = some a) (hl : e.st[j]? = some (some (.l ds))) {xs' : List V} {ds' : List D} (hx : AtL K F ds' xs') :
    Rep K R F A σ (upd H a (.lst xs')) ⟨e.sl, e.st.set j (some (.l ds'))⟩ := r.writeO hj hl (o := .lst xs') (ob' := .l ds') ⟨xs', rfl, hx⟩
/-- a name is given a value -/
theorem Rep.put (r : Rep K R F A σ H e) {i : Nat} {v : V} {s : Sl} (h : SlAt K F A v s) : Rep K R F A (σ.set i (some v)) H ⟨e.sl.set i (some s), e.st⟩ := by
  refine ⟨r.sub, r.keep, r.apart, by simp [r.len], r.lenA, r.nodup, r.live, fun k t z => ?_, r.store, r.tabs⟩
  have z' : (e.sl.set i (some s))[k]? = some (some t) := z
  by_cases q : k = i
  · subst q
    have hk : k < e.sl.length := by
      have := (List.getElem?_eq_some_iff.mp z').1
      simpa using this
    rw [List.getElem?_set_self hk] at z'
    cases z'
    exact ⟨v, by rw [List.getElem?_set_self (by rw [← r.len]; exact hk)], h⟩
  · rw [List.getElem?_set_ne (Ne.symm q)] at z'
    obtain ⟨u, h1, h2⟩ := r.slot k t z'
    exact ⟨u, by rw [List.getElem?_set_ne (Ne.symm q)]; exact h1, h2⟩
/-- the names that hold the j-th list hold data from now on -/
def thaw (j : Nat) (ds : List D) : Option Sl → Option Sl
  | some (.obj i) => if i = j then some (.val (.list ds)) else some (.obj i)
  | s => s
def En.kill (e : En) (j : Nat) (ds : List D) : En := ⟨e.sl.map (thaw j ds), e.st.set j none⟩
theorem Rep.freeze (r : Rep K R F A σ H e) {j : Nat} {ds : List D} (hl : e.st[j]? = some (some (.l ds))) :
    ∃ a xs, A[j]? = some a ∧ Rep K R (upd F a (.lst xs)) A σ H (e.kill j ds) ∧ Le F (upd F a (.lst xs)) ∧ At K (upd F a (.lst xs)) (.list ds) (.ref a) := by
  obtain ⟨a, xs, hj, hF, hH, hx⟩ := r.lst hl
  have hm : a ∈ A := List.mem_of_getElem? hj
  have l := Le.new (o := .lst xs) hF
  have hat : At K (upd F a (.lst xs)) (.list ds) (.ref a) := .lst upd_same (AtL.le l _ _ hx)
  refine ⟨a, xs, hj, ⟨fun b u z => ?_, r.keep, fun b u z => ⟨?_, (r.apart b u z).2⟩, by simp [En.kill, r.len], by simp [En.kill, r.lenA], r.nodup, r.live, fun i s z => ?_, fun i cs z => ?_, r.tabs.freeze hm⟩, l, hat⟩
  · by_cases hb : b = a
    · subst hb
      rw [upd_same] at z
      cases z
      exact hH
    · rw [upd_ne hb] at z
      exact r.sub _ _ z
  · have n : b ≠ a := fun q => (r.apart b u z).2 (by rw [q]; exact hm)
    rw [upd_ne n]
    exact (r.apart b u z).1
  · have z' : (e.sl.map (thaw j ds))[i]? = some (some s) := z
    rw [List.getElem?_map] at z'
    obtain ⟨t, ht, hs⟩ := Option.map_eq_some_iff.mp z'
    cases t with
    | none => cases hs
    | some t =>
      cases t with
      | val d =>
        cases hs
        obtain ⟨v, h1, h2⟩ := r.slot i _ ht
        exact ⟨v, h1, h2.le l (pfx_refl A)⟩
      | kn d =>
        cases hs
        obtain ⟨v, h1, h2⟩ := r.slot i _ ht
        exact ⟨v, h1, SlAt.le (x := .kn d) l (pfx_refl A) h2⟩
      | exc d =>
        cases hs
        obtain ⟨v, h1, h2⟩ := r.slot i _ ht
        exact ⟨v, h1, h2⟩
      | obj k =>
        obtain ⟨v, h1, b, hb, hv⟩ := r.slot i _ ht
        have hs' : (if k = j then some (Sl.val (.list ds)) else some (Sl.obj k)) = some s := hs
        split at hs'
        · rename_i q
          cases hs'
          subst q
          rw [hj] at hb
          cases hb
          exact ⟨v, h1, by rw [hv]; exact hat⟩
        · cases hs'
          exact ⟨v, h1, b, hb, hv⟩
  · have z' : (e.st.set j none)[i]? = some (some cs) := z
    have hjl : j < e.st.length := (List.getElem?_eq_some_iff.mp hl).1
    by_cases q : i = j
    · subst q
      rw [List.getElem?_set_self hjl] at z'
      cases z'
    · rw [List.getElem?_set_ne (Ne.symm q)] at z'
      obtain ⟨b, h1, h2, h3⟩ := r.store i cs z'
      refine ⟨b, h1, ?_, h3.le l (pfx_refl A) fun _ e => e⟩
      have n : b ≠ a := fun w => q (nodup_at r.nodup (by rw [← w]; exact h1) hj)
      rw [upd_ne n]
      exact h2
/-- a name's value is forgotten -/
theorem Rep.weak (r : Rep K R F A σ H e) {σ' : L2.St} {sl : List (Option Sl)} (hl : sl.length = σ'.length) (h : ∀ (i : Nat) (s : Sl), sl[i]? = some (some s) → ∃ v, σ'[i]? = some (some v) ∧ SlAt K F A v s) : Rep K R F A σ' H ⟨sl, e.st⟩ :=
  ⟨r.sub, r.keep, r.apart, hl, r.lenA, r.nodup, r.live, h, r.store, r.tabs⟩
end
end Vl
namespace Vl
open PySem L2
abbrev KE := Sl → En → Prop
abbrev VTE := En → KE → Prop
abbrev VTT := En → (Bool → En → Prop) → Prop
abbrev VTA := En → (List Sl → En → Prop) → Prop
def Fin (K : PySem.W.Frag) (R F : Hp) (A : List Addr) (σ : L2.St) (Kp : KE) (Q : VK) : Prop := ∀ s e' v F' A' H', Kp s e' → Le F F' → A <+: A' → Rep K R F' A' σ H' e' → SlAt K F' A' v s → Q v H'
def liftE (K : PySem.W.Frag) (t : VTE) : TE := fun σ H Q => ∃ R F A e Kp, Rep K R F A σ H e ∧ t e Kp ∧ Fin K R F A σ Kp Q
def FinT (K : PySem.W.Frag) (R F : Hp) (A : List Addr) (σ : L2.St) (Kp : Bool → En → Prop) (Q : Bool → Hp → Prop) : Prop := ∀ b e' F' A' H', Kp b e' → Le F F' → A <+: A' → Rep K R F' A' σ H' e' → Q b H'
def liftT (K : PySem.W.Frag) (t : VTT) : TT := fun σ H Q => ∃ R F A e Kp, Rep K R F A σ H e ∧ t e Kp ∧ FinT K R F A σ Kp Q
def FinA (K : PySem.W.Frag) (R F : Hp) (A : List Addr) (σ : L2.St) (Kp : List Sl → En → Prop) (Q : List V → Hp → Prop) : Prop := ∀ ss e' vs F' A' H', Kp ss e' → Le F F' → A <+: A' → Rep K R F' A' σ H' e' → SlAts K F' A' vs ss → Q vs H'
def liftA (K : PySem.W.Frag) (t : VTA) : TA := fun σ H Q => ∃ R F A e Kp, Rep K R F A σ H e ∧ t e Kp ∧ FinA K R F A σ Kp Q
/-- the judgements -/
def VE (X : Cx) (ex : Expr) (t : VTE) : Prop := PE X ex (liftE X.K t)
def VT (X : Cx) (ex : Expr) (t : VTT) : Prop := PT X ex (liftT X.K t)
def VW (X : Cx) (ex : Expr) (t : VTT) : Prop := PW X ex (liftT X.K t)
def VA (X : Cx) (es : List Expr) (t : VTA) : Prop := PA X es (liftA X.K t)
theorem PE.imp {X : Cx} {ex : Expr} {t t' : TE} (h : PE X ex t) (f : ∀ σ H Q, t' σ H Q → t σ H Q) : PE X ex t' := ⟨fun pins s σ H Q I q => h.run pins s σ H Q I (f σ H Q q)⟩
theorem PT.imp {X : Cx} {ex : Expr} {t t' : TT} (h : PT X ex t) (f : ∀ σ H Q, t' σ H Q → t σ H Q) : PT X ex t' := ⟨fun pins s σ H Q I q => h.run pins s σ H Q I (f σ H Q q)⟩
theorem PW.imp {X : Cx} {ex : Expr} {t t' : TT} (h : PW X ex t) (f : ∀ σ H Q, t' σ H Q → t σ H Q) : PW X ex t' := ⟨fun wh pins s σ H Q I q => h.run wh pins s σ H Q I (f σ H Q q)⟩
theorem PA.imp {X : Cx} {ex : List Expr} {t t' : TA} (h : PA X ex t) (f : ∀ σ H Q, t' σ H Q → t σ H Q) : PA X ex t' := ⟨fun pos pins s σ H Q I q => h.run pos pins s σ H Q I (f σ H Q q)⟩
theorem PS.imp {X : Cx} {ex : Stmt} {t t' : TS} (h : PS X ex t) (f : ∀ D σ H, t' D σ H → t D σ H) : PS X ex t' := ⟨fun pins s σ H D I q => h.run pins s σ H D I (f D σ H q)⟩
theorem PSs.imp {X : Cx} {ex : List Stmt} {t t' : TS} (h : PSs X ex t) (f : ∀ D σ H, t' D σ H → t D σ H) : PSs X ex t' := ⟨fun pins s σ H D I q => h.run pins s σ H D I (f D σ H q)⟩
section
variable {K : PySem.W.Frag} {R F : Hp} {A : List Addr} {σ : L2.St} {H : Hp} {e : En} {Kp : KE} {Q : VK}
theorem Fin.tr {F1 : Hp} {A1 : List Addr} (f : Fin K R F A σ Kp Q) (a : Le F F1) (b : A <+: A1) : Fin K R F1 A1 σ Kp Q := fun s e' v F' A' H' k h1 h2 => f s e' v F' A' H' k (a.trans h1) (b.trans h2)
theorem FinT.tr {Kp : Bool → En → Prop} {Q : Bool → Hp → Prop} {F1 : Hp} {A1 : List Addr} (f : FinT K R F A σ Kp Q) (a : Le F F1) (b : A <+: A1) : FinT K R F1 A1 σ Kp Q := fun s e' F' A' H' k h1 h2 => f s e' F' A' H' k (a.trans h1) (b.trans h2)
theorem FinA.tr {Kp : List Sl → En → Prop} {Q : List V → Hp → Prop} {F1 : Hp} {A1 : List Addr} (f : FinA K R F A σ Kp Q) (a : Le F F1) (b : A <+: A1) : FinA K R F1 A1 σ Kp Q := fun s e' v F' A' H' k h1 h2 => f s e' v F' A' H' k (a.trans h1) (b.trans h2)
/-- an answer is ready -/
theorem Fin.done (f : Fin K R F A σ Kp Q) (r : Rep K R F A σ H e) {s : Sl} {v : V} (k : Kp s e) (h : SlAt K F A v s) : Q v H := f s e v F A H k (Le.refl F) (pfx_refl A) r h
theorem Fin.val (f : Fin K R F A σ Kp Q) (r : Rep K R F A σ H e) {d : D} {v : V} (k : Kp (.val d) e) (h : At K F d v) : Q v H := f.done r (s := .val d) k h
theorem Fin.newT (f : Fin K R F A σ Kp Q) (r : Rep K R F A σ H e) {ds : List D} {xs : List V} {p : Addr} (hp : H p = none) (k : Kp (.val (.tuple ds)) e) (h : AtL K F ds xs) : Q (.ref p) (upd H p (.tup xs)) := by
  obtain ⟨r2, l⟩ := r.fresh hp (.tup xs)
  exact f (.val (.tuple ds)) e (.ref p) _ A _ k l (pfx_refl A) r2 (.tup (SqT.of upd_same) (AtL.le l _ _ h))
theorem Fin.newL (f : Fin K R F A σ Kp Q) (r : Rep K R F A σ H e) {ds : List D} {xs : List V} {p : Addr} (hp : H p = none) (k : Kp (.val (.list ds)) e) (h : AtL K F ds xs) : Q (.ref p) (upd H p (.lst xs)) := by
  obtain ⟨r2, l⟩ := r.fresh hp (.lst xs)
  exact f (.val (.list ds)) e (.ref p) _ A _ k l (pfx_refl A) r2 (.lst upd_same (AtL.le l _ _ h))
theorem Fin.newO (f : Fin K R F A σ Kp Q) (r : Rep K R F A σ H e) {ds : List D} {xs : List V} {p : Addr} (hp : H p = none) (k : Kp (.obj e.st.length) ⟨e.sl, e.st ++ [some (.l ds)]⟩) (h : AtL K F ds xs) : Q (.ref p) (upd H p (.lst xs)) := by
  obtain ⟨r2, l⟩ := r.alloc hp h
  refine f (.obj e.st.length) _ (.ref p) F _ _ k (Le.refl F) l r2 ⟨p, ?_, rfl⟩
  rw [r.lenA, List.getElem?_append_right (Nat.le_refl _), Nat.sub_self] <;> rfl
end
/-- what stands there now -/
def pk (s : Sl) (e : En) : Option D := match s with
  | .val d => some d
  | .kn ds => some (.list ds)
  | .exc _ => none
  | .obj j => match e.st[j]? with
    | some (some (.l ds)) => some (.list ds)
    | _ => none
/-- the same, of what may be put together -/
def pkm (s : Sl) (e : En) : Option D := match s with
  | .val d => some d
  | .kn _ => none
  | .exc _ => none
  | .obj j => match e.st[j]? with
    | some (some (.l ds)) => some (.list ds)
    | _ => none
def Pk (K : PySem.W.Frag) (F H : Hp) (v : V) : D → Prop
  | .list ds => ∃ a xs, v = .ref a ∧ SqL K H a xs ∧ AtL K F ds xs
  | d => At K F d v
def Pkm (K : PySem.W.Frag) (F H : Hp) (v : V) : D → Prop
  | .list ds => ∃ a xs, v = .ref a ∧ H a = some (.lst xs) ∧ AtL K F ds xs
  | d => At K F d v
section
variable {K : PySem.W.Frag} {R F : Hp} {A : List Addr} {σ : L2.St} {H : Hp} {e : En}
theorem Pk.of_at (s : Le F H) {v : V} : ∀ {d : D}, At K F d v → Pk K F H v d
  | .list ds, h => by
    cases h with
    | lst h1 h2 => exact ⟨_, _, rfl, SqL.of (s _ _ h1), h2⟩
  | .none, h => h
  | .bool _, h => h
  | .int _, h => h
  | .str _, h => h
  | .tuple _, h => h
  | .dict _, h => h
theorem Pkm.of_at (s : Le F H) {v : V} : ∀ {d : D}, At K F d v → Pkm K F H v d
  | .list ds, h => by
    cases h with
    | lst h1 h2 => exact ⟨_, _, rfl, s _ _ h1, h2⟩
  | .none, h => h
  | .bool _, h => h
  | .int _, h => h
  | .str _, h => h
  | .tuple _, h => h
  | .dict _, h => h
theorem Rep.pk (r : Rep K R F A σ H e) {v : V} {s : Sl} (h : SlAt K F A v s) {d : D} (q : pk s e = some d) : Pk K F H v d := by
  cases s with
  | val c =>
    cases q
    exact Pk.of_at r.sub h
  | kn ds =>
    cases q
    obtain ⟨a, xs, e1, h1, h2⟩ := h
    exact ⟨a, xs, e1, sqL_le r.sub h1, h2⟩
  | exc d => cases q
  | obj j =>
    obtain ⟨a, e1, e2⟩ := h
    replace q : (match e.st[j]? with | some (some (.l ds)) => some (PyData.list ds) | _ => none) = some d := q
    split at q
    · rename_i ds hd
      cases q
      obtain ⟨b, xs, h1, h2, h3, h4⟩ := r.lst hd
      rw [e1] at h1
      cases h1
      exact ⟨a, xs, e2, SqL.of h3, h4⟩
    · cases q
theorem Rep.pkm (r : Rep K R F A σ H e) {v : V} {s : Sl} (h : SlAt K F A v s) {d : D} (q : pkm s e = some d) : Pkm K F H v d := by
  cases s with
  | val c =>
    cases q
    exact Pkm.of_at r.sub h
  | kn ds => cases q
  | exc d => cases q
  | obj j =>
    obtain ⟨a, e1, e2⟩ := h
    replace q : (match e.st[j]? with | some (some (.l ds)) => some (PyData.list ds) | _ => none) = some d := q
    split at q
    · rename_i ds hd
      cases q
      obtain ⟨b, xs, h1, h2, h3, h4⟩ := r.lst hd
      rw [e1] at h1
      cases h1
      exact ⟨a, xs, e2, h3, h4⟩
    · cases q
theorem Pk.int {v : V} {i : Int} (h : Pk K F H v (.int i)) : v = .int i := by
  cases (show At K F (.int i) v from h)
  rfl
theorem Pk.str {v : V} {i : Str} (h : Pk K F H v (.str i)) : v = .str i := by
  cases (show At K F (.str i) v from h)
  rfl
theorem Pk.bool {v : V} {i : Bool} (h : Pk K F H v (.bool i)) : v = .bl i := by
  cases (show At K F (.bool i) v from h)
  rfl
theorem Pk.none {v : V} (h : Pk K F H v .none) : v = .non := by
  cases (show At K F .none v from h)
  rfl
theorem Pk.tup {v : V} {ds : List D} (h : Pk K F H v (.tuple ds)) : ∃ a xs, v = .ref a ∧ SqT K F a xs ∧ AtL K F ds xs := by
  cases (show At K F (.tuple ds) v from h) with
  | tup h1 h2 => exact ⟨_, _, rfl, h1, h2⟩
theorem Pkm.int {v : V} {i : Int} (h : Pkm K F H v (.int i)) : v = .int i := by
  cases (show At K F (.int i) v from h)
  rfl
theorem Pkm.str {v : V} {i : Str} (h : Pkm K F H v (.str i)) : v = .str i := by
  cases (show At K F (.str i) v from h)
  rfl
theorem Pkm.tup {v : V} {ds : List D} (h : Pkm K F H v (.tuple ds)) : ∃ a xs, v = .ref a ∧ SqT K F a xs ∧ AtL K F ds xs := by
  cases (show At K F (.tuple ds) v from h) with
  | tup h1 h2 => exact ⟨_, _, rfl, h1, h2⟩
theorem Pk.dp (s : Le F H) {v : V} : ∀ {d : D}, PyData.canLay0 d = true → Pk K F H v d → Dp K H v d
  | .list ds, c, ⟨a, xs, e, h1, h2⟩ => by
    subst e
    exact .lst h1 (AtL.dp s _ _ (by rw [PyData.canLay0] at c; exact c) h2)
  | .none, c, h => At.dp s _ _ c h
  | .bool _, c, h => At.dp s _ _ c h
  | .int _, c, h => At.dp s _ _ c h
  | .str _, c, h => At.dp s _ _ c h
  | .tuple _, c, h => At.dp s _ _ c h
  | .dict _, c, h => At.dp s _ _ c h
end
def asD (s : Sl) (e : En) (Kd : D → En → Prop) : Prop := match s with
  | .val d => Kd d e
  | .kn _ => False
  | .exc _ => False
  | .obj j => match e.st[j]? with
    | some (some (.l ds)) => Kd (.list ds) (e.kill j ds)
    | _ => False
def asDs : List Sl → En → (List D → En → Prop) → Prop
  | [], e, Kd => Kd [] e
  | s :: ss, e, Kd => asD s e fun d e1 => asDs ss e1 fun ds e2 => Kd (d :: ds) e2
section
variable {K : PySem.W.Frag} {R F : Hp} {A : List Addr} {σ : L2.St} {H : Hp} {e : En}
theorem Rep.asD (r : Rep K R F A σ H e) {v : V} {s : Sl} (h : SlAt K F A v s) {Kd : D → En → Prop} (q : asD s e Kd) : ∃ d e' F', Kd d e' ∧ Rep K R F' A σ H e' ∧ Le F F' ∧ At K F' d v := by
  cases s with
  | val d => exact ⟨d, e, F, q, r, Le.refl F, h⟩
  | kn ds => exact q.elim
  | exc d => exact q.elim
  | obj j =>
    obtain ⟨a, e1, e2⟩ := h
    replace q : (match e.st[j]? with | some (some (.l ds)) => Kd (.list ds) (e.kill j ds) | _ => False) := q
    split at q
    · rename_i ds hd
      obtain ⟨b, xs, h1, h2, h3, h4⟩ := r.freeze hd
      rw [e1] at h1
      cases h1
      exact ⟨_, _, _, q, h2, h3, by rw [e2]; exact h4⟩
    · exact q.elim
theorem Rep.asDs {vs : List V} {ss : List Sl} : ∀ {F : Hp} {e : En}, Rep K R F A σ H e → SlAts K F A vs ss → ∀ {Kd : List D → En → Prop}, asDs ss e Kd → ∃ ds e' F', Kd ds e' ∧ Rep K R F' A σ H e' ∧ Le F F' ∧ AtL K F' ds vs := by
  induction ss generalizing vs with
  | nil =>
    intro F e r h Kd q
    cases h
    exact ⟨[], e, F, q, r, Le.refl F, .nil⟩
  | cons s ss ih =>
    intro F e r h Kd q
    cases h with
    | cons h1 h2 =>
      obtain ⟨d, e1, F1, q1, r1, l1, a1⟩ := r.asD h1 q
      obtain ⟨ds, e2, F2, q2, r2, l2, a2⟩ := ih r1 (h2.le l1 (pfx_refl A)) q1
      exact ⟨d :: ds, e2, F2, q2, r2, l1.trans l2, .cons (At.le l2 _ _ a1) a2⟩
end
def v2 (op : Sl → Sl → En → KE → Prop) (ta tb : VTE) : VTE := fun e Kp => ta e fun s1 e1 => tb e1 fun s2 e2 => op s1 s2 e2 Kp
def v1 (op : Sl → En → KE → Prop) (ta : VTE) : VTE := fun e Kp => ta e fun s1 e1 => op s1 e1 Kp
def Prim2 (K : PySem.W.Frag) (r : R2) (op : Sl → Sl → En → KE → Prop) : Prop := ∀ {R F : Hp} {A : List Addr} {σ : L2.St} {H : Hp} {e : En} {x y : V} {s1 s2 : Sl} {Kp : KE} {Q : VK}, Rep K R F A σ H e → SlAt K F A x s1 → SlAt K F A y s2 → op s1 s2 e Kp → Fin K R F A σ Kp Q → r x y H Q
def Prim1 (K : PySem.W.Frag) (r : V → Hp → VK → Prop) (op : Sl → En → KE → Prop) : Prop := ∀ {R F : Hp} {A : List Addr} {σ : L2.St} {H : Hp} {e : En} {x : V} {s1 : Sl} {Kp : KE} {Q : VK}, Rep K R F A σ H e → SlAt K F A x s1 → op s1 e Kp → Fin K R F A σ Kp Q → r x H Q
def PrimN (K : PySem.W.Frag) (r : List V → Hp → VK → Prop) (op : List Sl → En → KE → Prop) : Prop := ∀ {R F : Hp} {A : List Addr} {σ : L2.St} {H : Hp} {e : En} {xs : List V} {ss : List Sl} {Kp : KE} {Q : VK}, Rep K R F A σ H e → SlAts K F A xs ss → op ss e Kp → Fin K R F A σ Kp Q → r xs H Q
section
variable {X : Cx} {a b : Expr} {ta tb : VTE} {pos : Pos}
theorem lift2 {r : R2} {op : Sl → Sl → En → KE → Prop} (p : Prim2 X.K r op) (σ : L2.St) (H : Hp) (Q : VK) (h : liftE X.K (v2 op ta tb) σ H Q) : tOp r (liftE X.K ta) (liftE X.K tb) σ H Q := by
  obtain ⟨R, F, A, e, Kp, rep, ht, fin⟩ := h
  exact ⟨R, F, A, e, _, rep, ht, fun s1 e1 x F1 A1 H1 k1 f1 p1 rep1 at1 => ⟨R, F1, A1, e1, _, rep1, k1, fun s2 e2 y F2 A2 H2 k2 f2 p2 rep2 at2 => p rep2 (at1.le f2 p2) at2 k2 (fin.tr (f1.trans f2) (p1.trans p2))⟩⟩
theorem lift1 {r : V → Hp → VK → Prop} {op : Sl → En → KE → Prop} (p : Prim1 X.K r op) (σ : L2.St) (H : Hp) (Q : VK) (h : liftE X.K (v1 op ta) σ H Q) : liftE X.K ta σ H fun x H1 => r x H1 Q := by
  obtain ⟨R, F, A, e, Kp, rep, ht, fin⟩ := h
  exact ⟨R, F, A, e, _, rep, ht, fun s1 e1 x F1 A1 H1 k1 f1 p1 rep1 at1 => p rep1 at1 k1 (fin.tr f1 p1)⟩
def vN (op : List Sl → En → KE → Prop) (t : VTA) : VTE := fun e Kp => t e fun ss e1 => op ss e1 Kp
theorem liftN {r : List V → Hp → VK → Prop} {op : List Sl → En → KE → Prop} {t : VTA} (p : PrimN X.K r op) (σ : L2.St) (H : Hp) (Q : VK) (h : liftE X.K (vN op t) σ H Q) : liftA X.K t σ H fun xs H1 => r xs H1 Q := by
  obtain ⟨R, F, A, e, Kp, rep, ht, fin⟩ := h
  exact ⟨R, F, A, e, _, rep, ht, fun s1 e1 x F1 A1 H1 k1 f1 p1 rep1 at1 => p rep1 at1 k1 (fin.tr f1 p1)⟩
theorem ve_op {op : Operator} {r : R2} {o : Sl → Sl → En → KE → Prop} (p : Prim2 X.K r o) (ho : OpR X (binaryOp op) r) (ha : VE X a ta) (hb : VE X b tb) : VE X (.BinOp a op b pos) (v2 o ta tb) := PE.imp (pe_op ho ha hb) (lift2 p)
theorem ve_cmp {op : CmpOp} {r : R2} {o : Sl → Sl → En → KE → Prop} (p : Prim2 X.K r o) (ho : OpR X (compareOp op) r) (ha : VE X a ta) (hb : VE X b tb) (hm : behindInMarks op b = false) : VE X (.Compare a [op] [b] pos) (v2 o ta tb) := PE.imp (pe_cmpR ho ha hb hm) (lift2 p)
theorem ve_ixR {r : R2} {o : Sl → Sl → En → KE → Prop} (p : Prim2 X.K r o) (hr : IxR X r) (ha : VE X a ta) (hb : VE X b tb) (hs : PlainIx b) : VE X (.Subscript a b pos) (v2 o ta tb) := PE.imp (pe_ix hr ha hb hs) (lift2 p)
theorem ve_unR {op : UnaryOp} {r : V → Hp → VK → Prop} {o : Sl → En → KE → Prop} (p : Prim1 X.K r o) (ho : UnR X (unaryOp op) r) (ha : VE X a ta) : VE X (.UnaryOp op a pos) (v1 o ta) := PE.imp (pe_un ho ha) (lift1 p)
def vTest (t : VTE) : VTT := fun e Kp => t e fun s e1 => match pk s e1 with
  | some (.bool b) => Kp b e1
  | _ => False
theorem lift_test {t : VTE} (σ : L2.St) (H : Hp) (Q : Bool → Hp → Prop) (h : liftT X.K (vTest t) σ H Q) : liftE X.K t σ H fun x H' => ∃ k, x = .bl k ∧ Q k H' := by
  obtain ⟨R, F, A, e, Kp, rep, ht, fin⟩ := h
  refine ⟨R, F, A, e, _, rep, ht, fun s1 e1 x F1 A1 H1 k1 f1 p1 rep1 at1 => ?_⟩
  split at k1
  · rename_i b hb
    exact ⟨b, (rep1.pk at1 hb).bool, fin b e1 F1 A1 H1 k1 f1 p1 rep1⟩
  · exact k1.elim
theorem vt_cmp {op : CmpOp} {r : R2} {o : Sl → Sl → En → KE → Prop} (p : Prim2 X.K r o) (ho : OpR X (compareOp op) r) (ha : VE X a ta) (hb : VE X b tb) (hm : behindInMarks op b = false) : VT X (.Compare a [op] [b] pos) (vTest (v2 o ta tb)) :=
  PT.imp (pt_cmpR ho ha hb hm) fun σ H Q h => lift2 p σ H _ (by
    obtain ⟨R, F, A, e, Kp, rep, ht, fin⟩ := h
    refine ⟨R, F, A, e, _, rep, ht, fun s1 e1 x F1 A1 H1 k1 f1 p1 rep1 at1 => ?_⟩
    split at k1
    · rename_i b hb
      exact ⟨b, (rep1.pk at1 hb).bool, fin b e1 F1 A1 H1 k1 f1 p1 rep1⟩
    · exact k1.elim)
/-- an expression that gives a truth -/
theorem vt_val {ex : Expr} {t : VTE} (h : VE X ex t) (he : ∀ whole, isTrue ex X.env whole = (do let v ← whole; standAt ex.pos; holding [v] (truthy v)) := by intro _; rfl) : VT X ex (vTest t) := PT.imp (pt_val h he) fun σ H Q q => lift_test σ H Q q
/-- any value's truth -/
def truth : D → Option Bool
  | .none => some false
  | .bool b => some b
  | .int i => some (i != 0)
  | .str s => some ((s.length : Int) != 0)
  | .list ds => some (!ds.isEmpty)
  | .tuple ds => some (!ds.isEmpty)
  | .dict _ => none
def vTruth (t : VTE) : VTT := fun e Kp => t e fun s e1 => match pk s e1 with
  | some (.str x) => x.length ≤ sizeLine ∧ Kp ((x.length : Int) != 0) e1
  | some d => (match truth d with
    | some b => Kp b e1
    | none => False)
  | none => False
theorem empty_at {F : Hp} {ds : List D} {xs : List V} (h : AtL X.K F ds xs) : (!ds.isEmpty) = !xs.isEmpty := by
  cases h <;> rfl
theorem vt_truth {ex : Expr} {t : VTE} (h : VE X ex t) (he : ∀ whole, isTrue ex X.env whole = (do let v ← whole; standAt ex.pos; holding [v] (truthy v)) := by intro _; rfl) : VT X ex (vTruth t) := PT.imp (pt_truth h he) fun σ H Q q => by
  obtain ⟨R, F, A, e, Kp, rep, ht, fin⟩ := q
  refine ⟨R, F, A, e, _, rep, ht, fun s1 e1 x F1 A1 H1 k1 f1 p1 rep1 at1 => ?_⟩
  cases hp : pk s1 e1 with
  | none => rw [hp] at k1; exact k1.elim
  | some d =>
    rw [hp] at k1
    have pk1 := rep1.pk at1 hp
    cases d with
    | none => exact ⟨false, by rw [pk1.none]; rfl, fin _ e1 F1 A1 H1 k1 f1 p1 rep1⟩
    | bool b => exact ⟨b, by rw [pk1.bool]; rfl, fin _ e1 F1 A1 H1 k1 f1 p1 rep1⟩
    | int i => exact ⟨_, by rw [pk1.int]; rfl, fin _ e1 F1 A1 H1 k1 f1 p1 rep1⟩
    | str z => exact ⟨_, by rw [pk1.str]; exact ⟨k1.1, rfl⟩, fin _ e1 F1 A1 H1 k1.2 f1 p1 rep1⟩
    | list ds =>
      obtain ⟨a, xs, rfl, h1, h2⟩ := pk1
      exact ⟨_, .inl ⟨xs, h1, rfl⟩, by rw [← empty_at h2]; exact fin _ e1 F1 A1 H1 k1 f1 p1 rep1⟩
    | tuple ds =>
      obtain ⟨a, xs, rfl, h1, h2⟩ := pk1.tup
      exact ⟨_, .inr (.inl ⟨xs, sqT_le rep1.sub h1, rfl⟩), by rw [← empty_at h2]; exact fin _ e1 F1 A1 H1 k1 f1 p1 rep1⟩
    | dict _ => exact k1.elim
def vNotT (t : VTT) : VTT := fun e Kp => t e fun b e1 => Kp (!b) e1
theorem vt_not {t : VTT} (h : VT X a t) : VT X (.UnaryOp .Not a pos) (vNotT t) := PT.imp (pt_not h) fun σ H Q q => by
  obtain ⟨R, F, A, e, Kp, rep, ht, fin⟩ := q
  exact ⟨R, F, A, e, _, rep, ht, fun b e1 F1 A1 H1 k1 f1 p1 rep1 => fin _ e1 F1 A1 H1 k1 f1 p1 rep1⟩
def vAndT (t u : VTT) : VTT := fun e Kp => t e fun b e1 => if b = true then u e1 Kp else Kp false e1
def vOrT (t u : VTT) : VTT := fun e Kp => t e fun b e1 => if b = true then Kp true e1 else u e1 Kp
theorem vw_and1 {t : VTT} (h : VT X a t) : VW X (.BoolOp .And [a] pos) t := pw_and1 h
theorem vw_or1 {t : VTT} (h : VT X a t) : VW X (.BoolOp .Or [a] pos) t := pw_or1 h
theorem vw_and {t u : VTT} {rest : List Expr} (h : VT X a t) (g : VW X (.BoolOp .And (b :: rest) pos) u) : VW X (.BoolOp .And (a :: b :: rest) pos) (vAndT t u) := PW.imp (pw_and h g) fun σ H Q q => by
  obtain ⟨R, F, A, e, Kp, rep, ht, fin⟩ := q
  refine ⟨R, F, A, e, _, rep, ht, fun b e1 F1 A1 H1 k1 f1 p1 rep1 => ?_⟩
  cases b with
  | true => exact ⟨R, F1, A1, e1, Kp, rep1, k1, fin.tr f1 p1⟩
  | false => exact fin _ e1 F1 A1 H1 k1 f1 p1 rep1
theorem vw_or {t u : VTT} {rest : List Expr} (h : VT X a t) (g : VW X (.BoolOp .Or (b :: rest) pos) u) : VW X (.BoolOp .Or (a :: b :: rest) pos) (vOrT t u) := PW.imp (pw_or h g) fun σ H Q q => by
  obtain ⟨R, F, A, e, Kp, rep, ht, fin⟩ := q
  refine ⟨R, F, A, e, _, rep, ht, fun b e1 F1 A1 H1 k1 f1 p1 rep1 => ?_⟩
  cases b with
  | true => exact fin _ e1 F1 A1 H1 k1 f1 p1 rep1
  | false => exact ⟨R, F1, A1, e1, Kp, rep1, k1, fin.tr f1 p1⟩
theorem VW.vt {ex : Expr} {t : VTT} (h : VW X ex t) : VT X ex t := PW.pt h
def vAndV (ta tb : VTE) : VTE := fun e Kp => ta e fun s e1 => match pk s e1 with
  | some (.bool c) => if c = true then tb e1 Kp else Kp (.val (.bool false)) e1
  | _ => False
def vOrV (ta tb : VTE) : VTE := fun e Kp => ta e fun s e1 => match pk s e1 with
  | some (.bool c) => if c = true then Kp (.val (.bool true)) e1 else tb e1 Kp
  | _ => False
def opNot (s : Sl) (e : En) (Kp : KE) : Prop := match pk s e with
  | some (.bool c) => Kp (.val (.bool (!c))) e
  | _ => False
theorem ve_one {op} (h : VE X a ta) : VE X (.BoolOp op [a] pos) ta := pe_one h
theorem ve_and {rest : List Expr} (ha : VE X a ta) (hb : VE X (.BoolOp .And (b :: rest) pos) tb) : VE X (.BoolOp .And (a :: b :: rest) pos) (vAndV ta tb) := PE.imp (pe_and ha hb) fun σ H Q q => by
  obtain ⟨R, F, A, e, Kp, rep, ht, fin⟩ := q
  refine ⟨R, F, A, e, _, rep, ht, fun s1 e1 x F1 A1 H1 k1 f1 p1 rep1 at1 => ?_⟩
  split at k1
  · rename_i c hc
    refine ⟨c, (rep1.pk at1 hc).bool, ?_⟩
    cases c with
    | true => exact ⟨R, F1, A1, e1, Kp, rep1, k1, fin.tr f1 p1⟩
    | false => exact (fin.tr f1 p1).val rep1 k1 (.bl false)
  · exact k1.elim
theorem ve_or {rest : List Expr} (ha : VE X a ta) (hb : VE X (.BoolOp .Or (b :: rest) pos) tb) : VE X (.BoolOp .Or (a :: b :: rest) pos) (vOrV ta tb) := PE.imp (pe_or ha hb) fun σ H Q q => by
  obtain ⟨R, F, A, e, Kp, rep, ht, fin⟩ := q
  refine ⟨R, F, A, e, _, rep, ht, fun s1 e1 x F1 A1 H1 k1 f1 p1 rep1 at1 => ?_⟩
  split at k1
  · rename_i c hc
    refine ⟨c, (rep1.pk at1 hc).bool, ?_⟩
    cases c with
    | false => exact ⟨R, F1, A1, e1, Kp, rep1, k1, fin.tr f1 p1⟩
    | true => exact (fin.tr f1 p1).val rep1 k1 (.bl true)
  · exact k1.elim
def vIfE (t : VTT) (ta tb : VTE) : VTE := fun e Kp => t e fun b e1 => if b = true then ta e1 Kp else tb e1 Kp
theorem ve_ifExp {c : Expr} {t : VTT} (hc : VT X c t) (ha : VE X a ta) (hb : VE X b tb) : VE X (.IfExp c a b pos) (vIfE t ta tb) := PE.imp (pe_ifExp hc ha hb) fun σ H Q q => by
  obtain ⟨R, F, A, e, Kp, rep, ht, fin⟩ := q
  refine ⟨R, F, A, e, _, rep, ht, fun b e1 F1 A1 H1 k1 f1 p1 rep1 => ?_⟩
  cases b with
  | true => exact ⟨R, F1, A1, e1, Kp, rep1, k1, fin.tr f1 p1⟩
  | false => exact ⟨R, F1, A1, e1, Kp, rep1, k1, fin.tr f1 p1⟩
def vVar (i : Nat) : VTE := fun e Kp => match e.sl[i]? with
  | some (some s) => Kp s e
  | _ => False
def vC (d : D) : VTE := fun e Kp => Kp (.val d) e
theorem vp (i : Nat) {x : Str} {pos : Pos} (hN : X.N[i]? = some x := by rfl) (hv : Vis X.env.scope x := by first | exact Or.inl rfl | exact Or.inr (Or.inl rfl) | exact Or.inr (Or.inr rfl)) (hd : (x == ("__debug__" : Str)) = false := by decide)
    (hcd : (x == ("__classdict__" : Str)) = false := by decide) : VE X (.Name x pos) (vVar i) := PE.imp (pe_var hN hv hd hcd) fun σ H Q q => by
  obtain ⟨R, F, A, e, Kp, rep, ht, fin⟩ := q
  have ht' : (match e.sl[i]? with | some (some s) => Kp s e | _ => False) := ht
  split at ht'
  · rename_i s hs
    obtain ⟨v, h1, h2⟩ := rep.slot i s hs
    exact ⟨v, h1, fin.done rep ht' h2⟩
  · exact ht'.elim
theorem ve_c {ex : Expr} {v : V} {d : D} (h : PE X ex (tC v)) (hd : ∀ F, At X.K F d v) : VE X ex (vC d) := PE.imp h fun σ H Q q => by
  obtain ⟨R, F, A, e, Kp, rep, ht, fin⟩ := q
  exact fin.val rep ht (hd F)
theorem ve_int {i j pos} : VE X (.Constant (.int i) j pos) (vC (.int i)) := ve_c pe_int fun _ => .int i
theorem ve_bl {b j pos} : VE X (.Constant (.bool b) j pos) (vC (.bool b)) := ve_c pe_bl fun _ => .bl b
theorem ve_non {j pos} : VE X (.Constant .none j pos) (vC .none) := ve_c pe_non fun _ => .non
theorem ve_str {x j pos} : VE X (.Constant (.str x) j pos) (vC (.str x)) := ve_c pe_str fun _ => .str x
theorem ve_glob {x : Str} {v : V} {d : D} {u : Value} {pos : Pos} (hg : Gl X x) (hm : X.mg x = some u) (r : RelV v u) (hd : ∀ F, At X.K F d v) (hdb : (x == ("__debug__" : Str)) = false := by decide) : VE X (.Name x pos) (vC d) := ve_c (pe_glob hg hm r hdb) hd
def vNil : VTA := fun e Kp => Kp [] e
def vCons (ta : VTE) (tr : VTA) : VTA := fun e Kp => ta e fun s e1 => tr e1 fun ss e2 => Kp (s :: ss) e2
theorem va_nil : VA X [] vNil := PA.imp pa_nil fun σ H Q q => by
  obtain ⟨R, F, A, e, Kp, rep, ht, fin⟩ := q
  exact fin [] e [] F A H ht (Le.refl F) (pfx_refl A) rep .nil
theorem va_cons {es : List Expr} {t : VTA} (ha : VE X a ta) (hr : VA X es t) (hs : starEach (a :: es) X.env = (false, eval a X.env) :: starEach es X.env := by rfl) : VA X (a :: es) (vCons ta t) := PA.imp (pa_cons ha hr hs) fun σ H Q q => by
  obtain ⟨R, F, A, e, Kp, rep, ht, fin⟩ := q
  exact ⟨R, F, A, e, _, rep, ht, fun s1 e1 x F1 A1 H1 k1 f1 p1 rep1 at1 => ⟨R, F1, A1, e1, _, rep1, k1, fun ss e2 xs F2 A2 H2 k2 f2 p2 rep2 at2 => fin _ e2 _ F2 A2 H2 k2 (f1.trans f2) (p1.trans p2) rep2 (.cons (at1.le f2 p2) at2)⟩⟩
def opTup (ss : List Sl) (e : En) (Kp : KE) : Prop := asDs ss e fun ds e1 => ds.length ≤ sizeLine ∧ Kp (.val (.tuple ds)) e1
def opLst (ss : List Sl) (e : En) (Kp : KE) : Prop := asDs ss e fun ds e1 => ds.length ≤ sizeLine ∧ Kp (.val (.list ds)) e1
def opLstO (ss : List Sl) (e : En) (Kp : KE) : Prop := asDs ss e fun ds e1 => ds.length ≤ sizeLine ∧ Kp (.obj e1.st.length) ⟨e1.sl, e1.st ++ [some (.l ds)]⟩
theorem ve_tup {es : List Expr} {t : VTA} {x1} (h : VA X es t) : VE X (.Tuple es x1 pos) (vN opTup t) := PE.imp (pe_tup h) (liftN fun {R F A σ H e xs ss Kp Q} rep ha ho fin => by
  obtain ⟨ds, e1, F1, ⟨hl, k⟩, rep1, l1, a1⟩ := rep.asDs ha ho
  exact ⟨by rw [a1.len]; exact hl, fun p hp => (fin.tr l1 (pfx_refl A)).newT rep1 hp k a1⟩)
theorem ve_lst {es : List Expr} {t : VTA} (h : VA X es t) : VE X (.List es pos) (vN opLst t) := PE.imp (pe_lst h) (liftN fun {R F A σ H e xs ss Kp Q} rep ha ho fin => by
  obtain ⟨ds, e1, F1, ⟨hl, k⟩, rep1, l1, a1⟩ := rep.asDs ha ho
  exact ⟨by rw [a1.len]; exact hl, fun p hp => (fin.tr l1 (pfx_refl A)).newL rep1 hp k a1⟩)
theorem ve_lstO {es : List Expr} {t : VTA} (h : VA X es t) : VE X (.List es pos) (vN opLstO t) := PE.imp (pe_lst h) (liftN fun {R F A σ H e xs ss Kp Q} rep ha ho fin => by
  obtain ⟨ds, e1, F1, ⟨hl, k⟩, rep1, l1, a1⟩ := rep.asDs ha ho
  exact ⟨by rw [a1.len]; exact hl, fun p hp => (fin.tr l1 (pfx_refl A)).newO rep1 hp k a1⟩)
end
end Vl
namespace Vl
open PySem L2
theorem u190 {k : Nat} {A : Around} (r : Room k A) : A.units + 190 < cLine := by
  have := r.un
  omega
/-- data that == may go into -/
def shp (d : D) : Bool := d.canLay0 && decide (d.depth ≤ 190)
theorem shp_can {d : D} (h : shp d = true) : PyData.canLay0 d = true := (Bool.and_eq_true_iff.mp h).1
def rEqW (K : PySem.W.Frag) (neg : Bool) : R2 := fun x y H Q => ∃ d e, Dp K H x d ∧ Dp K H y e ∧ shp d = true ∧ shp e = true ∧ Q (.bl (if neg then !PyData.eqv d e else PyData.eqv d e)) H
section
variable {X : Cx}
theorem op_eqW (hu : X.A.units + 190 < cLine) : OpR X (compareOp .Eq) (rEqW X.K false) := by
  intro pins s σ H x y v u Q I rx ry h
  obtain ⟨d, e, hd, he, sd, se, q⟩ := h
  obtain ⟨as, r1⟩ := Dp.reads I d x v hd rx
  obtain ⟨bs, r2⟩ := Dp.reads I e y u he ry
  obtain ⟨l1, l2⟩ := Bool.and_eq_true_iff.mp sd
  obtain ⟨l3, l4⟩ := Bool.and_eq_true_iff.mp se
  have := of_decide_eq_true l2
  exact SeqAt.compareEq_reads r1 r2 l1 l3 (by omega) ⟨.bl _, H, I, rfl, q⟩
theorem op_neW (hu : X.A.units + 190 < cLine) : OpR X (compareOp .NotEq) (rEqW X.K true) := by
  intro pins s σ H x y v u Q I rx ry h
  obtain ⟨d, e, hd, he, sd, se, q⟩ := h
  obtain ⟨as, r1⟩ := Dp.reads I d x v hd rx
  obtain ⟨bs, r2⟩ := Dp.reads I e y u he ry
  obtain ⟨l1, l2⟩ := Bool.and_eq_true_iff.mp sd
  obtain ⟨l3, l4⟩ := Bool.and_eq_true_iff.mp se
  have := of_decide_eq_true l2
  exact SeqAt.compareNe_reads r1 r2 l1 l3 (by omega) ⟨.bl _, H, I, rfl, q⟩
end
def opAdd (s1 s2 : Sl) (e : En) (Kp : KE) : Prop := match pkm s1 e, pkm s2 e with
  | some (.int i), some (.int j) => Kp (.val (.int (i + j))) e
  | some (.str i), some (.str j) => i.length + j.length ≤ sizeLine ∧ Kp (.val (.str (i ++ j))) e
  | some (.list ds), some (.list es) => ds.length + es.length ≤ sizeLine ∧ Kp (.val (.list (ds ++ es))) e
  | some (.tuple ds), some (.tuple es) => ds.length + es.length ≤ sizeLine ∧ Kp (.val (.tuple (ds ++ es))) e
  | _, _ => False
def rAdd4 (K : PySem.W.Frag) : R2 := fun x y H Q => (rI0 (fun i j => .int (i + j)) x y H Q ∨ ∃ i j, x = .str i ∧ y = .str j ∧ i.length + j.length ≤ sizeLine ∧ Q (.str (i ++ j)) H) ∨ (rCat x y H Q ∨ rCatA K x y H Q)
theorem op_add4 {X : Cx} : OpR X (binaryOp .Add) (rAdd4 X.K) := (op_add.or op_add_str).or (op_cat.or op_catA)
theorem AtL.nil_iff {K : PySem.W.Frag} {F : Hp} {ds : List D} {xs : List V} (h : AtL K F ds xs) : ds = [] ↔ xs = [] := by
  cases h <;> simp
section
variable {K : PySem.W.Frag}
theorem p_add : Prim2 K (rAdd4 K) opAdd := by
  intro R F A σ H e x y s1 s2 Kp Q rep a1 a2 ho fin
  unfold opAdd at ho
  split at ho
  · rename_i i j h1 h2
    exact .inl (.inl ⟨i, j, (rep.pkm a1 h1).int, (rep.pkm a2 h2).int, fin.val rep ho (.int _)⟩)
  · rename_i i j h1 h2
    exact .inl (.inr ⟨i, j, (rep.pkm a1 h1).str, (rep.pkm a2 h2).str, ho.1, fin.val rep ho.2 (.str _)⟩)
  · rename_i ds es h1 h2
    obtain ⟨a, xs, rfl, q1, q2⟩ := rep.pkm a1 h1
    obtain ⟨b, ys, rfl, q3, q4⟩ := rep.pkm a2 h2
    exact .inr (.inl ⟨a, b, xs, ys, rfl, rfl, q1, q3, by rw [q2.len, q4.len]; exact ho.1, fun p hp => fin.newL rep hp ho.2 (q2.app q4)⟩)
  · rename_i ds es h1 h2
    obtain ⟨a, xs, rfl, q1, q2⟩ := (rep.pkm a1 h1).tup
    obtain ⟨b, ys, rfl, q3, q4⟩ := (rep.pkm a2 h2).tup
    refine .inr (.inr ⟨a, b, xs, ys, rfl, rfl, sqT_le rep.sub q1, sqT_le rep.sub q3, by rw [q2.len, q4.len]; exact ho.1, fun z => ?_, fun _ z => ?_, fun _ _ p hp => fin.newT rep hp ho.2 (q2.app q4)⟩)
    · have z' := q2.nil_iff.mpr z
      subst z'
      exact fin.val rep ho.2 (.tup q3 q4)
    · have z' := q4.nil_iff.mpr z
      subst z'
      have k := ho.2
      rw [List.append_nil] at k
      exact fin.val rep k (.tup q1 q2)
  · exact ho.elim
/-- the sum of two lists is a list of the store -/
def opAddO (s1 s2 : Sl) (e : En) (Kp : KE) : Prop := match pkm s1 e, pkm s2 e with
  | some (.list ds), some (.list es) => ds.length + es.length ≤ sizeLine ∧ Kp (.obj e.st.length) ⟨e.sl, e.st ++ [some (.l (ds ++ es))]⟩
  | _, _ => False
theorem p_addO : Prim2 K rCat opAddO := by
  intro R F A σ H e x y s1 s2 Kp Q rep a1 a2 ho fin
  unfold opAddO at ho
  split at ho
  · rename_i ds es h1 h2
    obtain ⟨a, xs, rfl, q1, q2⟩ := rep.pkm a1 h1
    obtain ⟨b, ys, rfl, q3, q4⟩ := rep.pkm a2 h2
    exact ⟨a, b, xs, ys, rfl, rfl, q1, q3, by rw [q2.len, q4.len]; exact ho.1, fun p hp => fin.newO rep hp ho.2 (q2.app q4)⟩
  · exact ho.elim
/-- two whole numbers -/
def opI (C : Int → Int → Prop) (g : Int → Int → D) (s1 s2 : Sl) (e : En) (Kp : KE) : Prop := match pk s1 e, pk s2 e with
  | some (.int i), some (.int j) => C i j ∧ Kp (.val (g i j)) e
  | _, _ => False
def opI0 (g : Int → Int → D) (s1 s2 : Sl) (e : En) (Kp : KE) : Prop := match pk s1 e, pk s2 e with
  | some (.int i), some (.int j) => Kp (.val (g i j)) e
  | _, _ => False
def sV : D → V
  | .none => .non
  | .bool b => .bl b
  | .int i => .int i
  | .str x => .str x
  | _ => .non
theorem p_i {C : Int → Int → Prop} {g : Int → Int → D} (hg : ∀ i j F, At K F (g i j) (sV (g i j))) : Prim2 K (rI C fun i j => sV (g i j)) (opI C g) := by
  intro R F A σ H e x y s1 s2 Kp Q rep a1 a2 ho fin
  unfold opI at ho
  split at ho
  · rename_i i j h1 h2
    exact ⟨i, j, (rep.pk a1 h1).int, (rep.pk a2 h2).int, ho.1, fin.val rep ho.2 (hg i j F)⟩
  · exact ho.elim
theorem p_i0 {g : Int → Int → D} (hg : ∀ i j F, At K F (g i j) (sV (g i j))) : Prim2 K (rI0 fun i j => sV (g i j)) (opI0 g) := by
  intro R F A σ H e x y s1 s2 Kp Q rep a1 a2 ho fin
  unfold opI0 at ho
  split at ho
  · rename_i i j h1 h2
    exact ⟨i, j, (rep.pk a1 h1).int, (rep.pk a2 h2).int, fin.val rep ho (hg i j F)⟩
  · exact ho.elim
end
section
variable {X : Cx} {a b : Expr} {ta tb : VTE} {pos : Pos}
theorem ve_add (ha : VE X a ta) (hb : VE X b tb) : VE X (.BinOp a .Add b pos) (v2 opAdd ta tb) := ve_op p_add op_add4 ha hb
theorem ve_addO (ha : VE X a ta) (hb : VE X b tb) : VE X (.BinOp a .Add b pos) (v2 opAddO ta tb) := ve_op p_addO op_cat ha hb
def gSubI (i j : Int) : D := .int (i - j)
def gMulI (i j : Int) : D := .int (i * j)
def gModI (i j : Int) : D := .int (i.fmod j)
def gDivI (i j : Int) : D := .int (i.fdiv j)
def gPowI (i j : Int) : D := .int (i ^ j.toNat)
abbrev opSub := opI0 gSubI
abbrev opMod := opI (fun _ j => j ≠ 0) gModI
def CDiv6 (_ j : Int) : Prop := 0 < j ∧ j < 2 ^ 120
abbrev opDiv := opI CDiv6 gDivI
abbrev opPow := opI CPow gPowI
theorem ve_sub (ha : VE X a ta) (hb : VE X b tb) : VE X (.BinOp a .Sub b pos) (v2 opSub ta tb) := ve_op (p_i0 (g := gSubI) fun _ _ _ => .int _) op_sub ha hb
theorem ve_mod (ha : VE X a ta) (hb : VE X b tb) : VE X (.BinOp a .Mod b pos) (v2 opMod ta tb) := ve_op (p_i (g := gModI) fun _ _ _ => .int _) op_modN ha hb
theorem CDiv6.log {i j : Int} (h : CDiv6 i j) : j.natAbs.log2 < 9000 := Nat.lt_of_lt_of_le (PySem.Flt.log2_lt_of (k := 120) (by decide) (by
  have h1 := h.1
  have h2 := h.2
  omega)) (by decide)
theorem op_fdiv6 : OpR X (binaryOp .FloorDiv) (rI CDiv6 fun i j => .int (i.fdiv j)) := L2.opI fun i j _ _ _ _ _ hc q => PyProof.Rows.floordiv_int (by have := hc.1; omega) q (.inl (PyProof.noPylong_of_log2 hc.log))
theorem ve_div (ha : VE X a ta) (hb : VE X b tb) : VE X (.BinOp a .FloorDiv b pos) (v2 opDiv ta tb) := ve_op (p_i (g := gDivI) fun _ _ _ => .int _) op_fdiv6 ha hb
theorem ve_pow (ha : VE X a ta) (hb : VE X b tb) : VE X (.BinOp a .Pow b pos) (v2 opPow ta tb) := ve_op (p_i (g := gPowI) fun _ _ _ => .int _) op_pow ha hb
def gLt (i j : Int) : D := .bool (decide (i < j))
def gLe (i j : Int) : D := .bool (decide (i ≤ j))
def gGt (i j : Int) : D := .bool (decide (j < i))
def gGe (i j : Int) : D := .bool (decide (j ≤ i))
abbrev opLe := opI0 gLe
abbrev opGt := opI0 gGt
abbrev opGe := opI0 gGe
def opLt (s1 s2 : Sl) (e : En) (Kp : KE) : Prop := match pk s1 e, pk s2 e with
  | some (.int i), some (.int j) => Kp (.val (gLt i j)) e
  | some (.str i), some (.str j) => Kp (.val (.bool (decide (i.cps.toList < j.cps.toList)))) e
  | _, _ => False
def rLt2 : R2 := fun x y H Q => rI0 (fun i j => .bl (decide (i < j))) x y H Q ∨ ∃ i j, x = .str i ∧ y = .str j ∧ Q (.bl (decide (i.cps.toList < j.cps.toList))) H
theorem p_lt {K : PySem.W.Frag} : Prim2 K rLt2 opLt := by
  intro R F A σ H e x y s1 s2 Kp Q rep a1 a2 ho fin
  unfold opLt at ho
  split at ho
  · rename_i i j h1 h2
    exact .inl ⟨i, j, (rep.pk a1 h1).int, (rep.pk a2 h2).int, fin.val rep ho (.bl _)⟩
  · rename_i i j h1 h2
    exact .inr ⟨i, j, (rep.pk a1 h1).str, (rep.pk a2 h2).str, fin.val rep ho (.bl _)⟩
  · exact ho.elim
/-- == -/
def opEq (neg : Bool) (s1 s2 : Sl) (e : En) (Kp : KE) : Prop := match pk s1 e, pk s2 e with
  | some (.int i), some (.int j) => Kp (.val (.bool (if neg then !decide (i = j) else decide (i = j)))) e
  | some (.str i), some (.str j) => Kp (.val (.bool (if neg then !decide (i = j) else decide (i = j)))) e
  | some d, some c => shp d = true ∧ shp c = true ∧ Kp (.val (.bool (if neg then !PyData.eqv d c else PyData.eqv d c))) e
  | _, _ => False
def rEq2 (K : PySem.W.Frag) (neg : Bool) : R2 := fun x y H Q => (scal x y = true ∧ Q (.bl (if neg then !decide (x = y) else decide (x = y))) H) ∨ rEqW K neg x y H Q
theorem p_eq {K : PySem.W.Frag} {neg : Bool} : Prim2 K (rEq2 K neg) (opEq neg) := by
  intro R F A σ H e x y s1 s2 Kp Q rep a1 a2 ho fin
  unfold opEq at ho
  split at ho
  · rename_i i j h1 h2
    have e1 := (rep.pk a1 h1).int
    have e2 := (rep.pk a2 h2).int
    subst e1 e2
    refine .inl ⟨rfl, ?_⟩
    have z : decide (V.int i = V.int j) = decide (i = j) := by
      by_cases q : i = j <;> simp [q]
    rw [z]
    exact fin.val rep ho (.bl _)
  · rename_i i j h1 h2
    have e1 := (rep.pk a1 h1).str
    have e2 := (rep.pk a2 h2).str
    subst e1 e2
    refine .inl ⟨rfl, ?_⟩
    have z : decide (V.str i = V.str j) = decide (i = j) := by
      by_cases q : i = j <;> simp [q]
    rw [z]
    exact fin.val rep ho (.bl _)
  · rename_i d c _ _ h1 h2
    exact .inr ⟨d, c, (rep.pk a1 h1).dp rep.sub (shp_can ho.1), (rep.pk a2 h2).dp rep.sub (shp_can ho.2.1), ho.1, ho.2.1, fin.val rep ho.2.2 (.bl _)⟩
  · exact ho.elim
theorem op_eq2 (hu : X.A.units + 190 < cLine) : OpR X (compareOp .Eq) (rEq2 X.K false) := op_eq.or (op_eqW hu)
theorem op_ne2 (hu : X.A.units + 190 < cLine) : OpR X (compareOp .NotEq) (rEq2 X.K true) := op_ne.or (op_neW hu)
/-- in -/
def opIn (neg : Bool) (s1 s2 : Sl) (e : En) (Kp : KE) : Prop := match pk s1 e, pk s2 e with
  | some (.str i), some (.str j) => Kp (.val (.bool (if neg then !(!(Builtin.Str.occurrences j i 0 j.length 1).isEmpty) else !(Builtin.Str.occurrences j i 0 j.length 1).isEmpty))) e
  | some d, some (.list ds) => SeqAt.shaped d = true ∧ SeqAt.shaped (.list ds) = true ∧ Kp (.val (.bool (if neg then !ds.any (fun z => PyData.eqv z d) else ds.any fun z => PyData.eqv z d))) e
  | _, _ => False
def rIn2 (K : PySem.W.Frag) : R2 := fun x y H Q => (∃ i j, x = .str i ∧ y = .str j ∧ Q (.bl (!(Builtin.Str.occurrences j i 0 j.length 1).isEmpty)) H) ∨ rInD K x y H Q
def rNotIn2 (K : PySem.W.Frag) : R2 := fun x y H Q => (∃ i j, x = .str i ∧ y = .str j ∧ Q (.bl (!(!(Builtin.Str.occurrences j i 0 j.length 1).isEmpty))) H) ∨ rNotInD K x y H Q
theorem p_in {K : PySem.W.Frag} : Prim2 K (rIn2 K) (opIn false) := by
  intro R F A σ H e x y s1 s2 Kp Q rep a1 a2 ho fin
  unfold opIn at ho
  split at ho
  · rename_i i j h1 h2
    exact .inl ⟨i, j, (rep.pk a1 h1).str, (rep.pk a2 h2).str, fin.val rep ho (.bl _)⟩
  · rename_i d ds h1 h2
    exact .inr ⟨d, ds, (rep.pk a1 h1).dp rep.sub (SeqAt.canLay_of_shaped ho.1), (rep.pk a2 h2).dp rep.sub (SeqAt.canLay_of_shaped ho.2.1), ho.1, ho.2.1, fin.val rep ho.2.2 (.bl _)⟩
  · exact ho.elim
theorem p_notIn {K : PySem.W.Frag} : Prim2 K (rNotIn2 K) (opIn true) := by
  intro R F A σ H e x y s1 s2 Kp Q rep a1 a2 ho fin
  unfold opIn at ho
  split at ho
  · rename_i i j h1 h2
    exact .inl ⟨i, j, (rep.pk a1 h1).str, (rep.pk a2 h2).str, fin.val rep ho (.bl _)⟩
  · rename_i d ds h1 h2
    exact .inr ⟨d, ds, (rep.pk a1 h1).dp rep.sub (SeqAt.canLay_of_shaped ho.1), (rep.pk a2 h2).dp rep.sub (SeqAt.canLay_of_shaped ho.2.1), ho.1, ho.2.1, fin.val rep ho.2.2 (.bl _)⟩
  · exact ho.elim
theorem op_in2 (hu : X.A.units + 190 < cLine) : OpR X (compareOp .In) (rIn2 X.K) := op_in_str.or (op_inD (by omega))
theorem op_notIn2 (hu : X.A.units + 190 < cLine) : OpR X (compareOp .NotIn) (rNotIn2 X.K) := op_notIn_str.or (op_notInD (by omega))
/-- is None -/
def opIsN (neg : Bool) (s1 s2 : Sl) (e : En) (Kp : KE) : Prop := match pk s1 e, pk s2 e with
  | some .none, some .none => Kp (.val (.bool (!neg))) e
  | some _, some .none => Kp (.val (.bool neg)) e
  | _, _ => False
theorem Pk.ne_non {K : PySem.W.Frag} {F H : Hp} {v : V} : ∀ {d : D}, d ≠ .none → Pk K F H v d → v ≠ .non
  | .none, n, _ => absurd rfl n
  | .bool b, _, h => by
    rw [h.bool]
    intro z
    cases z
  | .int b, _, h => by
    rw [h.int]
    intro z
    cases z
  | .str b, _, h => by
    rw [h.str]
    intro z
    cases z
  | .list ds, _, ⟨a, xs, e, _⟩ => by
    rw [e]
    intro z
    cases z
  | .tuple ds, _, h => by
    obtain ⟨a, xs, e, _⟩ := h.tup
    rw [e]
    intro z
    cases z
  | .dict _, _, h => by
    have h' : At K F (.dict _) v := h
    cases h' <;> (intro z; cases z)
theorem p_isN {K : PySem.W.Frag} : Prim2 K (fun x y H Q => y = .non ∧ Q (.bl (decide (x = .non))) H) (opIsN false) := by
  intro R F A σ H e x y s1 s2 Kp Q rep a1 a2 ho fin
  unfold opIsN at ho
  split at ho
  · rename_i h1 h2
    refine ⟨(rep.pk a2 h2).none, ?_⟩
    rw [(rep.pk a1 h1).none]
    exact fin.val rep ho (.bl _)
  · rename_i d n h1 h2
    refine ⟨(rep.pk a2 h2).none, ?_⟩
    have nd : d ≠ .none := fun z => by
      subst z
      exact n rfl
    rw [decide_eq_false ((rep.pk a1 h1).ne_non nd)]
    exact fin.val rep ho (.bl _)
  · exact ho.elim
theorem p_notN {K : PySem.W.Frag} : Prim2 K (fun x y H Q => y = .non ∧ Q (.bl (!decide (x = .non))) H) (opIsN true) := by
  intro R F A σ H e x y s1 s2 Kp Q rep a1 a2 ho fin
  unfold opIsN at ho
  split at ho
  · rename_i h1 h2
    refine ⟨(rep.pk a2 h2).none, ?_⟩
    rw [(rep.pk a1 h1).none]
    exact fin.val rep ho (.bl _)
  · rename_i d n h1 h2
    refine ⟨(rep.pk a2 h2).none, ?_⟩
    have nd : d ≠ .none := fun z => by
      subst z
      exact n rfl
    rw [decide_eq_false ((rep.pk a1 h1).ne_non nd)]
    exact fin.val rep ho (.bl _)
  · exact ho.elim
def opNeg (s : Sl) (e : En) (Kp : KE) : Prop := match pk s e with
  | some (.int i) => Kp (.val (.int (-i))) e
  | _ => False
theorem p_neg {K : PySem.W.Frag} : Prim1 K (rU fun i => .int (-i)) opNeg := by
  intro R F A σ H e x s1 Kp Q rep a1 ho fin
  unfold opNeg at ho
  split at ho
  · rename_i i h1
    exact ⟨i, (rep.pk a1 h1).int, fin.val rep ho (.int _)⟩
  · exact ho.elim
theorem ve_neg (ha : VE X a ta) : VE X (.UnaryOp .USub a pos) (v1 opNeg ta) := ve_unR p_neg un_neg ha
def opIx (s1 s2 : Sl) (e : En) (Kp : KE) : Prop := match pk s1 e, pk s2 e with
  | some (.tuple ds), some (.int i) => ∃ d, atI ds i = some d ∧ Kp (.val d) e
  | some (.list ds), some (.int i) => ∃ d, atI ds i = some d ∧ Kp (.val d) e
  | some (.str z), some (.int i) => ∃ c, z.length ≤ sizeLine ∧ atI z.cps.toList i = some c ∧ Kp (.val (.str ⟨#[c]⟩)) e
  | _, _ => False
theorem AtL.atI {K : PySem.W.Frag} {F : Hp} {ds : List D} {xs : List V} (h : AtL K F ds xs) {i : Int} {d : D} (e : atI ds i = some d) : ∃ v, L2.atI xs i = some v ∧ At K F d v := by
  unfold L2.atI at e ⊢
  rw [h.len]
  cases q : ixN ds.length i with
  | none =>
    rw [q] at e
    cases e
  | some j =>
    rw [q] at e
    exact h.get e
theorem p_ix {K : PySem.W.Frag} : Prim2 K (rIx K) opIx := by
  intro R F A σ H e x y s1 s2 Kp Q rep a1 a2 ho fin
  unfold opIx at ho
  split at ho
  · rename_i ds i h1 h2
    obtain ⟨d, hd, k⟩ := ho
    obtain ⟨a, xs, rfl, q1, q2⟩ := (rep.pk a1 h1).tup
    obtain ⟨v, hv, av⟩ := q2.atI hd
    exact .inr (.inl ⟨a, xs, i, v, rfl, (rep.pk a2 h2).int, sqT_le rep.sub q1, hv, fin.val rep k av⟩)
  · rename_i ds i h1 h2
    obtain ⟨d, hd, k⟩ := ho
    obtain ⟨a, xs, rfl, q1, q2⟩ := rep.pk a1 h1
    obtain ⟨v, hv, av⟩ := q2.atI hd
    exact .inl ⟨a, xs, i, v, rfl, (rep.pk a2 h2).int, q1, hv, fin.val rep k av⟩
  · rename_i z i h1 h2
    obtain ⟨c, hz, hc, k⟩ := ho
    exact .inr (.inr ⟨z, i, c, (rep.pk a1 h1).str, (rep.pk a2 h2).int, hz, hc, fin.val rep k (.str _)⟩)
  · exact ho.elim
end
end Vl
namespace Vl
open PySem L2
abbrev VTO := En → (Option Int → En → Prop) → Prop
def liftO (K : PySem.W.Frag) (t : VTO) : TO := fun σ H Q => ∃ R F A e Kp, Rep K R F A σ H e ∧ t e Kp ∧ ∀ i e' F' A' H', Kp i e' → Le F F' → A <+: A' → Rep K R F' A' σ H' e' → Q i H'
def VO (X : Cx) (ex : Option Expr) (t : VTO) : Prop := PO X ex (liftO X.K t)
def vNoPart : VTO := fun e Kp => Kp none e
def vPart (t : VTE) : VTO := fun e Kp => t e fun s e1 => match pk s e1 with
  | some (.int i) => Kp (some i) e1
  | _ => False
theorem PO.imp {X : Cx} {ex : Option Expr} {t t' : TO} (h : PO X ex t) (f : ∀ σ H Q, t' σ H Q → t σ H Q) : PO X ex t' := by
  obtain ⟨run⟩ := h
  constructor
  intros
  apply run <;> first | assumption | (apply f; assumption)
section
variable {X : Cx} {a b : Expr} {ta tb : VTE} {pos : Pos}
theorem vo_none : VO X none vNoPart := PO.imp po_none fun σ H Q h => by
  obtain ⟨R, F, A, e, Kp, rep, ht, fin⟩ := h
  exact fin none e F A H ht (Le.refl F) (pfx_refl A) rep
theorem vo_some (h : VE X a ta) : VO X (some a) (vPart ta) := PO.imp (po_some h) fun σ H Q h => by
  obtain ⟨R, F, A, e, Kp, rep, ht, fin⟩ := h
  refine ⟨R, F, A, e, _, rep, ht, fun s1 e1 x F1 A1 H1 k1 f1 p1 rep1 at1 => ?_⟩
  split at k1
  · rename_i i hi
    exact ⟨i, (rep1.pk at1 hi).int, fin _ e1 F1 A1 H1 k1 f1 p1 rep1⟩
  · exact k1.elim
def cut (ds : List D) (lo hi : Option Int) : List D := (ds.drop (HT.sIx ds.length 0 lo)).take (HT.sIx ds.length ds.length hi - HT.sIx ds.length 0 lo)
theorem AtL.cut {K : PySem.W.Frag} {F : Hp} {ds : List D} {xs : List V} (h : AtL K F ds xs) (lo hi : Option Int) : AtL K F (Vl.cut ds lo hi) (cutV xs lo hi) := by
  unfold Vl.cut cutV
  rw [h.len]
  exact (h.drop _).take _
def opSl (s : Sl) (lo hi : Option Int) (e : En) (Kp : KE) : Prop := match pk s e with
  | some (.list ds) => Kp (.val (.list (cut ds lo hi))) e
  | some (.tuple ds) => Kp (.val (.tuple (cut ds lo hi))) e
  | some (.str z) => z.length ≤ sizeLine ∧ Kp (.val (.str (cutS z lo hi))) e
  | _ => False
def opSlO (s : Sl) (lo hi : Option Int) (e : En) (Kp : KE) : Prop := match pk s e with
  | some (.list ds) => Kp (.obj e.st.length) ⟨e.sl, e.st ++ [some (.l (cut ds lo hi))]⟩
  | _ => False
def vSl (op : Sl → Option Int → Option Int → En → KE → Prop) (ta : VTE) (tl th : VTO) : VTE := fun e Kp => ta e fun s e1 => tl e1 fun l e2 => th e2 fun u e3 => op s l u e3 Kp
def rSl3 (K : PySem.W.Frag) : V → Option Int → Option Int → Hp → VK → Prop := fun x lo hi H Q => rSlL K x lo hi H Q ∨ rSlA K x lo hi H Q ∨ rSlS x lo hi H Q
theorem cut_whole {K : PySem.W.Frag} {F : Hp} {ds : List D} {xs : List V} (h : AtL K F ds xs) {lo hi : Option Int} (z : HT.sIx xs.length 0 lo = 0 ∧ HT.sIx xs.length xs.length hi = xs.length) : Vl.cut ds lo hi = ds := by
  unfold Vl.cut
  rw [← h.len, z.1, z.2, List.drop_zero, Nat.sub_zero, h.len, List.take_length]
theorem liftSl {r : V → Option Int → Option Int → Hp → VK → Prop} {op : Sl → Option Int → Option Int → En → KE → Prop} {tl th : VTO}
    (p : ∀ {R F : Hp} {A : List Addr} {σ : L2.St} {H : Hp} {e : En} {x : V} {s : Sl} {lo hi : Option Int} {Kp : KE} {Q : VK}, Rep X.K R F A σ H e → SlAt X.K F A x s → op s lo hi e Kp → Fin X.K R F A σ Kp Q → r x lo hi H Q)
    (σ : L2.St) (H : Hp) (Q : VK) (h : liftE X.K (vSl op ta tl th) σ H Q) : tSl r (liftE X.K ta) (liftO X.K tl) (liftO X.K th) σ H Q := by
  obtain ⟨R, F, A, e, Kp, rep, ht, fin⟩ := h
  exact ⟨R, F, A, e, _, rep, ht, fun s1 e1 x F1 A1 H1 k1 f1 p1 rep1 at1 => ⟨R, F1, A1, e1, _, rep1, k1, fun l e2 F2 A2 H2 k2 f2 p2 rep2 => ⟨R, F2, A2, e2, _, rep2, k2, fun u e3 F3 A3 H3 k3 f3 p3 rep3 =>
    p rep3 (at1.le (f2.trans f3) (p2.trans p3)) k3 (fin.tr (f1.trans (f2.trans f3)) (p1.trans (p2.trans p3)))⟩⟩⟩
theorem ve_slice {lo hi : Option Expr} {tl th : VTO} {p2 : Pos} (ha : VE X a ta) (hl : VO X lo tl) (hu : VO X hi th) : VE X (.Subscript a (.Slice lo hi none p2) pos) (vSl opSl ta tl th) :=
  PE.imp (pe_slice (r := rSl3 X.K) (sl_list.or (sl_tupA.or sl_str)) ha hl hu) (liftSl fun {R F A σ H e x s lo hi Kp Q} rep a1 ho fin => by
    unfold opSl at ho
    split at ho
    · rename_i ds h1
      obtain ⟨a, xs, rfl, q1, q2⟩ := rep.pk a1 h1
      exact .inl ⟨a, xs, rfl, q1, fun p hp => fin.newL rep hp ho (q2.cut lo hi)⟩
    · rename_i ds h1
      obtain ⟨a, xs, rfl, q1, q2⟩ := (rep.pk a1 h1).tup
      refine .inr (.inl ⟨a, xs, rfl, sqT_le rep.sub q1, fun z => ?_, fun _ p hp => fin.newT rep hp ho (q2.cut lo hi)⟩)
      rw [cut_whole q2 z] at ho
      exact fin.val rep ho (.tup q1 q2)
    · rename_i z h1
      exact .inr (.inr ⟨z, (rep.pk a1 h1).str, ho.1, fin.val rep ho.2 (.str _)⟩)
    · exact ho.elim)
theorem ve_blt {id : String} {r : List V → Hp → VK → Prop} {op : List Sl → En → KE → Prop} {x : Str} {p : Pos} {es : List Expr} {t : VTA} (pr : PrimN X.K r op) (hc : CallR X (.builtin id) r) (hg : Gl X x) (hm : X.mg x = none) (hv : bootBuiltins x = some (.builtin id)) (ha : VA X (a :: es) t)
    (hn : x ≠ "__name__" := by decide) (hdb : (x == ("__debug__" : Str)) = false := by decide) (he : starEach (a :: es) X.env = (false, eval a X.env) :: starEach es X.env := by rfl) (hpl : (backTo pos (starEach es X.env)).any (·.1) = false := by rfl) :
    VE X (.Call (.Name x p) (a :: es) [] pos) (vN op t) := PE.imp (pe_callB hc hg hm hv ha hn hdb he hpl) (liftN pr)
theorem ve_typ {T : String} {r : List V → Hp → VK → Prop} {op : List Sl → En → KE → Prop} {x : Str} {p : Pos} {es : List Expr} {t : VTA} (pr : PrimN X.K r op) (hc : CallR X (.type T) r) (hg : Gl X x) (hm : X.mg x = none) (hv : bootBuiltins x = some (.type T)) (ha : VA X (a :: es) t)
    (hn : x ≠ "__name__" := by decide) (hdb : (x == ("__debug__" : Str)) = false := by decide) (he : starEach (a :: es) X.env = (false, eval a X.env) :: starEach es X.env := by rfl) (hpl : (backTo pos (starEach es X.env)).any (·.1) = false := by rfl) :
    VE X (.Call (.Name x p) (a :: es) [] pos) (vN op t) := PE.imp (pe_callTy hc hg hm hv ha hn hdb he hpl) (liftN pr)
def opLen (ss : List Sl) (e : En) (Kp : KE) : Prop := match ss with
  | [s] => (match pk s e with
    | some (.list ds) => Kp (.val (.int (ds.length : Nat))) e
    | some (.tuple ds) => Kp (.val (.int (ds.length : Nat))) e
    | some (.str z) => z.length ≤ sizeLine ∧ Kp (.val (.int (z.length : Nat))) e
    | _ => False)
  | _ => False
theorem SlAts.one {K : PySem.W.Frag} {F : Hp} {A : List Addr} {xs : List V} {s : Sl} (h : SlAts K F A xs [s]) : ∃ x, xs = [x] ∧ SlAt K F A x s := by
  cases h with
  | cons h1 h2 =>
    cases h2
    exact ⟨_, rfl, h1⟩
theorem SlAts.two {K : PySem.W.Frag} {F : Hp} {A : List Addr} {xs : List V} {s t : Sl} (h : SlAts K F A xs [s, t]) : ∃ x y, xs = [x, y] ∧ SlAt K F A x s ∧ SlAt K F A y t := by
  cases h with
  | cons h1 h2 =>
    obtain ⟨y, rfl, h3⟩ := h2.one
    exact ⟨_, _, rfl, h1, h3⟩
theorem p_len {K : PySem.W.Frag} : PrimN K (fun xs H Q => ∃ x n, xs = [x] ∧ LenV K x H n ∧ Q (.int n) H) opLen := by
  intro R F A σ H e xs ss Kp Q rep a1 ho fin
  unfold opLen at ho
  split at ho
  · rename_i s
    obtain ⟨x, rfl, a2⟩ := a1.one
    split at ho
    · rename_i ds h1
      obtain ⟨a, ys, rfl, q1, q2⟩ := rep.pk a2 h1
      exact ⟨_, ds.length, rfl, .inl ⟨ys, q1, q2.len.symm⟩, fin.val rep ho (.int _)⟩
    · rename_i ds h1
      obtain ⟨a, ys, rfl, q1, q2⟩ := (rep.pk a2 h1).tup
      exact ⟨_, ds.length, rfl, .inr ⟨ys, sqT_le rep.sub q1, q2.len.symm⟩, fin.val rep ho (.int _)⟩
    · rename_i z h1
      have e1 := (rep.pk a2 h1).str
      subst e1
      exact ⟨_, z.length, rfl, ⟨ho.1, rfl⟩, fin.val rep ho.2 (.int _)⟩
    · exact ho.elim
  · exact ho.elim
theorem ve_len {p : Pos} {t : VTA} (hg : Gl X "len") (hm : X.mg "len" = none) (ha : VA X [a] t) (he : starEach [a] X.env = (false, eval a X.env) :: starEach [] X.env := by rfl) : VE X (.Call (.Name "len" p) [a] [] pos) (vN opLen t) :=
  ve_blt p_len call_len hg hm PySem.boot_len ha (by decide) (by decide) he
def opII (g : Int → Int → Int) (ss : List Sl) (e : En) (Kp : KE) : Prop := match ss with
  | [s, t] => (match pk s e, pk t e with
    | some (.int i), some (.int j) => Kp (.val (.int (g i j))) e
    | _, _ => False)
  | _ => False
theorem p_ii {K : PySem.W.Frag} {g : Int → Int → Int} : PrimN K (fun xs H Q => ∃ i j, xs = [.int i, .int j] ∧ Q (.int (g i j)) H) (opII g) := by
  intro R F A σ H e xs ss Kp Q rep a1 ho fin
  unfold opII at ho
  split at ho
  · rename_i s t
    obtain ⟨x, y, rfl, a2, a3⟩ := a1.two
    split at ho
    · rename_i i j h1 h2
      exact ⟨i, j, by rw [(rep.pk a2 h1).int, (rep.pk a3 h2).int], fin.val rep ho (.int _)⟩
    · exact ho.elim
  · exact ho.elim
def gMax (i j : Int) : Int := if j > i then j else i
def gMin (i j : Int) : Int := if j < i then j else i
theorem ve_max {p : Pos} {t : VTA} (hc : X.calm = true) (hg : Gl X "max") (hm : X.mg "max" = none) (ha : VA X [a, b] t) (he : starEach [a, b] X.env = (false, eval a X.env) :: starEach [b] X.env := by rfl) (hpl : (backTo pos (starEach [b] X.env)).any (·.1) = false := by rfl) : VE X (.Call (.Name "max" p) [a, b] [] pos) (vN (opII gMax) t) := ve_blt (p_ii (g := gMax)) (call_max2 hc) hg hm (by decide +kernel) ha (by decide) (by decide) he hpl
theorem ve_min {p : Pos} {t : VTA} (hc : X.calm = true) (hg : Gl X "min") (hm : X.mg "min" = none) (ha : VA X [a, b] t) (he : starEach [a, b] X.env = (false, eval a X.env) :: starEach [b] X.env := by rfl) (hpl : (backTo pos (starEach [b] X.env)).any (·.1) = false := by rfl) : VE X (.Call (.Name "min" p) [a, b] [] pos) (vN (opII gMin) t) := ve_blt (p_ii (g := gMin)) (call_min2 hc) hg hm (by decide +kernel) ha (by decide) (by decide) he hpl
/-- int(x) of a number or a truth -/
def opInt (ss : List Sl) (e : En) (Kp : KE) : Prop := match ss with
  | [s] => (match pk s e with
    | some (.int i) => Kp (.val (.int i)) e
    | some (.bool b) => Kp (.val (.int (if b then 1 else 0))) e
    | _ => False)
  | _ => False
theorem ve_intB {p : Pos} {t : VTA} (hg : Gl X "int") (hm : X.mg "int" = none) (ha : VA X [a] t) (he : starEach [a] X.env = (false, eval a X.env) :: starEach [] X.env := by rfl) : VE X (.Call (.Name "int" p) [a] [] pos) (vN opInt t) := ve_typ (fun {R F A σ H e xs ss Kp Q} rep a1 ho fin => by
  unfold opInt at ho
  split at ho
  · rename_i s
    obtain ⟨x, rfl, a2⟩ := a1.one
    split at ho
    · rename_i i h1
      exact .inl ⟨i, by rw [(rep.pk a2 h1).int], fin.val rep ho (.int _)⟩
    · rename_i b h1
      exact .inr ⟨b, by rw [(rep.pk a2 h1).bool], fin.val rep ho (.int _)⟩
    · exact ho.elim
  · exact ho.elim) call_int1 hg hm (by decide +kernel) ha (by decide) (by decide) he
/-- str(n) -/
def opStr (ss : List Sl) (e : En) (Kp : KE) : Prop := match ss with
  | [s] => (match pk s e with
    | some (.int i) => i.natAbs.log2 < 1920 ∧ Kp (.val (.str (toString i))) e
    | _ => False)
  | _ => False
theorem ve_strI {p : Pos} {t : VTA} (hg : Gl X "str") (hm : X.mg "str" = none) (ha : VA X [a] t) (he : starEach [a] X.env = (false, eval a X.env) :: starEach [] X.env := by rfl) : VE X (.Call (.Name "str" p) [a] [] pos) (vN opStr t) := ve_typ (fun {R F A σ H e xs ss Kp Q} rep a1 ho fin => by
  unfold opStr at ho
  split at ho
  · rename_i s
    obtain ⟨x, rfl, a2⟩ := a1.one
    split at ho
    · rename_i i h1
      exact ⟨i, by rw [(rep.pk a2 h1).int], ho.1, fin.val rep ho.2 (.str _)⟩
    · exact ho.elim
  · exact ho.elim) call_str_int hg hm (by decide +kernel) ha (by decide) (by decide) he
/-- list(xs), tuple(xs) -/
def opList (ss : List Sl) (e : En) (Kp : KE) : Prop := match ss with
  | [s] => (match pk s e with
    | some (.list ds) => Kp (.val (.list ds)) e
    | some (.tuple ds) => Kp (.val (.list ds)) e
    | _ => False)
  | _ => False
def opListO (ss : List Sl) (e : En) (Kp : KE) : Prop := match ss with
  | [s] => (match pk s e with
    | some (.list ds) => Kp (.obj e.st.length) ⟨e.sl, e.st ++ [some (.l ds)]⟩
    | some (.tuple ds) => Kp (.obj e.st.length) ⟨e.sl, e.st ++ [some (.l ds)]⟩
    | _ => False)
  | _ => False
def opTuple (ss : List Sl) (e : En) (Kp : KE) : Prop := match ss with
  | [s] => (match pk s e with
    | some (.list ds) => Kp (.val (.tuple ds)) e
    | some (.tuple ds) => Kp (.val (.tuple ds)) e
    | _ => False)
  | _ => False
theorem ve_list {p : Pos} {t : VTA} (hg : Gl X "list") (hm : X.mg "list" = none) (ha : VA X [a] t) (he : starEach [a] X.env = (false, eval a X.env) :: starEach [] X.env := by rfl) : VE X (.Call (.Name "list" p) [a] [] pos) (vN opList t) := ve_typ (fun {R F A σ H e xs ss Kp Q} rep a1 ho fin => by
  unfold opList at ho
  split at ho
  · rename_i s
    obtain ⟨x, rfl, a2⟩ := a1.one
    split at ho
    · rename_i ds h1
      obtain ⟨a, ys, rfl, q1, q2⟩ := rep.pk a2 h1
      exact ⟨a, ys, rfl, .inl q1, fun l hl => fin.newL rep hl ho q2⟩
    · rename_i ds h1
      obtain ⟨a, ys, rfl, q1, q2⟩ := (rep.pk a2 h1).tup
      exact ⟨a, ys, rfl, .inr (sqT_le rep.sub q1), fun l hl => fin.newL rep hl ho q2⟩
    · exact ho.elim
  · exact ho.elim) call_list_of hg hm (by decide +kernel) ha (by decide) (by decide) he
theorem ve_tuple {p : Pos} {t : VTA} (hg : Gl X "tuple") (hm : X.mg "tuple" = none) (ha : VA X [a] t) (he : starEach [a] X.env = (false, eval a X.env) :: starEach [] X.env := by rfl) : VE X (.Call (.Name "tuple" p) [a] [] pos) (vN opTuple t) := ve_typ (fun {R F A σ H e xs ss Kp Q} rep a1 ho fin => by
  unfold opTuple at ho
  split at ho
  · rename_i s
    obtain ⟨x, rfl, a2⟩ := a1.one
    split at ho
    · rename_i ds h1
      obtain ⟨a, ys, rfl, q1, q2⟩ := rep.pk a2 h1
      exact ⟨a, ys, rfl, .inl ⟨q1, fun l hl => fin.newT rep hl ho q2⟩⟩
    · rename_i ds h1
      obtain ⟨a, ys, rfl, q1, q2⟩ := (rep.pk a2 h1).tup
      exact ⟨a, ys, rfl, .inr ⟨sqT_le rep.sub q1, fin.val rep ho (.tup q1 q2)⟩⟩
    · exact ho.elim
  · exact ho.elim) call_tuple_of hg hm (by decide +kernel) ha (by decide) (by decide) he
def PrimM (K : PySem.W.Frag) (T : String) (r : V → List V → Hp → VK → Prop) (op : Sl → List Sl → En → KE → Prop) : Prop := ∀ {R F : Hp} {A : List Addr} {σ : L2.St} {H : Hp} {e : En} {x : V} {s : Sl} {xs : List V} {ss : List Sl} {Kp : KE} {Q : VK}, Rep K R F A σ H e → SlAt K F A x s → SlAts K F A xs ss → op s ss e Kp → Fin K R F A σ Kp Q → r x xs H Q
/-- the receiver is of the type, when its name is read -/
def isT (T : String) (s : Sl) (e : En) : Prop := match pk s e with
  | some (.str _) => T = "str"
  | some (.list _) => T = "list"
  | _ => False
theorem isT_ty {K : PySem.W.Frag} {R F : Hp} {A : List Addr} {σ : L2.St} {H : Hp} {e : En} {T : String} {x : V} {s : Sl} (rep : Rep K R F A σ H e) (a : SlAt K F A x s) (h : isT T s e) : tyV K T x H := by
  unfold isT at h
  split at h
  · rename_i z hz
    rw [(rep.pk a hz).str]
    exact h
  · rename_i ds hz
    obtain ⟨p, xs, rfl, q1, q2⟩ := rep.pk a hz
    exact .inl ⟨h, xs, q1⟩
  · exact h.elim
def vM (T : String) (op : Sl → List Sl → En → KE → Prop) (ta : VTE) (t : VTA) : VTE := fun e Kp => ta e fun s e1 => isT T s e1 ∧ t e1 fun ss e2 => op s ss e2 Kp
def vM0 (T : String) (op : Sl → List Sl → En → KE → Prop) (ta : VTE) : VTE := fun e Kp => ta e fun s e1 => isT T s e1 ∧ op s [] e1 Kp
variable {o : Expr} {to : VTE}
theorem ve_m {T id : String} {name : Str} {apos cpos : Pos} {r : V → List V → Hp → VK → Prop} {op : Sl → List Sl → En → KE → Prop} {es : List Expr} {t : VTA} (pr : PrimM X.K T r op) (pa : PlainAttrs T) (slot : Slot T name id) (hty : typeOf (.builtin id) = pure (.type "method_descriptor")) (hm : MtR X id r) (ho : VE X o to) (ha : VA X (a :: es) t)
    (hbase : attributeBase o name X.env (eval o X.env) = eval o X.env := by rfl)
    (hfew : ((backTo cpos (starEach (a :: es) X.env)).all (fun x => !x.1) && (backToKw cpos (keywordEach [] X.env)).all (fun x => x.1.isSome)
      && decide ((a :: es).length + ([] : List Keyword).length + (if ([] : List Keyword).isEmpty then 0 else 1) < 30)) = true := by rfl)
    (hline : (apos.endLine == cpos.line) = true := by rfl) (hs : starEach (a :: es) X.env = (false, eval a X.env) :: starEach es X.env := by rfl) (hplain : (backTo cpos (starEach es X.env)).any (·.1) = false := by rfl) :
    VE X (.Call (.Attribute o name apos) (a :: es) [] cpos) (vM T op to t) := PE.imp (pe_bm pa slot hty hm ho ha hbase hfew hline hs hplain) fun σ H Q h => by
  obtain ⟨R, F, A, e, Kp, rep, ht, fin⟩ := h
  exact ⟨R, F, A, e, _, rep, ht, fun s1 e1 x F1 A1 H1 k1 f1 p1 rep1 at1 => ⟨isT_ty rep1 at1 k1.1, R, F1, A1, e1, _, rep1, k1.2, fun ss e2 xs F2 A2 H2 k2 f2 p2 rep2 at2 => pr rep2 (at1.le f2 p2) at2 k2 (fin.tr (f1.trans f2) (p1.trans p2))⟩⟩
/-- xs.append(x) -/
def opAppend (s : Sl) (ss : List Sl) (e : En) (Kp : KE) : Prop := match ss with
  | [t] => asD t e fun d e1 => match s with
    | .obj j => (match e1.st[j]? with
      | some (some (.l ds)) => ds.length < sizeLine ∧ Kp (.val .none) ⟨e1.sl, e1.st.set j (some (.l (ds ++ [d])))⟩
      | _ => False)
    | _ => False
  | _ => False
theorem Fin.chg {K : PySem.W.Frag} {R F : Hp} {A : List Addr} {σ : L2.St} {H : Hp} {e : En} {Kp : KE} {Q : VK} (f : Fin K R F A σ Kp Q) (r : Rep K R F A σ H e) {j : Nat} {a : Addr} {ds : List D} (hj : A[j]? = some a) (hl : e.st[j]? = some (some (.l ds))) {xs' : List V} {ds' : List D} (hx : AtL K F ds' xs') {v : V} {d : D} (hv : At K F d v)
    (k : Kp (.val d) ⟨e.sl, e.st.set j (some (.l ds'))⟩) : Q v (upd H a (.lst xs')) := f (.val d) _ v F A _ k (Le.refl F) (pfx_refl A) (r.write hj hl hx) hv
theorem p_append {K : PySem.W.Frag} : PrimM K "list" rAppend opAppend := by
  intro R F A σ H e x s xs ss Kp Q rep a0 a1 ho fin
  unfold opAppend at ho
  split at ho
  · rename_i t
    obtain ⟨y, rfl, a2⟩ := a1.one
    obtain ⟨d, e1, F1, ho, rep1, l1, at1⟩ := rep.asD a2 ho
    cases s with
    | val _ => exact False.elim ho
    | kn _ => exact False.elim ho
    | exc _ => exact False.elim ho
    | obj j =>
      replace ho : (match e1.st[j]? with | some (some (.l ds)) => ds.length < sizeLine ∧ Kp (.val .none) ⟨e1.sl, e1.st.set j (some (.l (ds ++ [d])))⟩ | _ => False) := ho
      split at ho
      · rename_i ds hd
        obtain ⟨a, ea, rfl⟩ := a0
        obtain ⟨b, ys, q1, q2, q3, q4⟩ := rep1.lst hd
        rw [ea] at q1
        cases q1
        exact ⟨a, ys, y, rfl, rfl, q3, by rw [q4.len]; exact ho.1, (fin.tr l1 (pfx_refl A)).chg rep1 ea hd (q4.app (AtL.one at1)) .non ho.2⟩
      · exact ho.elim
  · exact ho.elim
/-- xs.extend(ys) -/
def opExtend (s : Sl) (ss : List Sl) (e : En) (Kp : KE) : Prop := match s, ss with
  | .obj j, [t] => (match e.st[j]?, pkm t e with
    | some (some (.l ds)), some (.list es) => ds.length + es.length ≤ sizeLine ∧ Kp (.val .none) ⟨e.sl, e.st.set j (some (.l (ds ++ es)))⟩
    | _, _ => False)
  | _, _ => False
theorem p_extend {K : PySem.W.Frag} : PrimM K "list" rExtend opExtend := by
  intro R F A σ H e x s xs ss Kp Q rep a0 a1 ho fin
  unfold opExtend at ho
  split at ho
  · rename_i j t
    obtain ⟨y, rfl, a2⟩ := a1.one
    split at ho
    · rename_i ds es hd he
      obtain ⟨a, ea, rfl⟩ := a0
      obtain ⟨b, ys, q1, q2, q3, q4⟩ := rep.lst hd
      rw [ea] at q1
      cases q1
      obtain ⟨c, zs, rfl, r1, r2⟩ := rep.pkm a2 he
      exact ⟨a, c, ys, zs, rfl, rfl, q3, r1, by rw [q4.len, r2.len]; exact ho.1, fin.chg rep ea hd (q4.app r2) .non ho.2⟩
    · exact ho.elim
  · exact ho.elim
/-- xs.pop() -/
def opPop (s : Sl) (ss : List Sl) (e : En) (Kp : KE) : Prop := match s with
  | .obj j => (match e.st[j]? with
    | some (some (.l ds)) => ∃ d, ds.getLast? = some d ∧ Kp (.val d) ⟨e.sl, e.st.set j (some (.l ds.dropLast))⟩
    | _ => False)
  | _ => False
theorem p_pop {K : PySem.W.Frag} : PrimM K "list" (fun x vs H Q => vs = [] → rPop x vs H Q) opPop := by
  intro R F A σ H e x s xs ss Kp Q rep a0 a1 ho fin hv
  subst hv
  unfold opPop at ho
  split at ho
  · rename_i j
    split at ho
    · rename_i ds hd
      obtain ⟨d, hl, k⟩ := ho
      obtain ⟨a, ea, rfl⟩ := a0
      obtain ⟨b, ys, q1, q2, q3, q4⟩ := rep.lst hd
      rw [ea] at q1
      cases q1
      rw [List.getLast?_eq_getElem?] at hl
      obtain ⟨v, hv, av⟩ := q4.get hl
      refine ⟨a, ys, v, rfl, rfl, q3, by rw [q4.len]; exact hv, fin.chg rep ea hd q4.dropLast av k⟩
    · exact ho.elim
  · exact ho.elim
theorem ve_append {apos cpos : Pos} {t : VTA} (ho : VE X o to) (ha : VA X [a] t) (hbase : attributeBase o "append" X.env (eval o X.env) = eval o X.env := by rfl) (hline : (apos.endLine == cpos.line) = true := by rfl) (hfew : ((backTo cpos (starEach [a] X.env)).all (fun x => !x.1) && (backToKw cpos (keywordEach [] X.env)).all (fun x => x.1.isSome)
      && decide ([a].length + ([] : List Keyword).length + (if ([] : List Keyword).isEmpty then 0 else 1) < 30)) = true := by rfl) (hs : starEach [a] X.env = (false, eval a X.env) :: starEach [] X.env := by rfl) :
    VE X (.Call (.Attribute o "append" apos) [a] [] cpos) (vM "list" opAppend to t) := ve_m p_append PySem.F.plainAttrs_list PySem.F.slot_list_append PySem.F.type_list_append mt_append ho ha hbase hfew hline hs
theorem ve_extend {apos cpos : Pos} {t : VTA} (ho : VE X o to) (ha : VA X [a] t) (hbase : attributeBase o "extend" X.env (eval o X.env) = eval o X.env := by rfl) (hline : (apos.endLine == cpos.line) = true := by rfl) (hfew : ((backTo cpos (starEach [a] X.env)).all (fun x => !x.1) && (backToKw cpos (keywordEach [] X.env)).all (fun x => x.1.isSome)
      && decide ([a].length + ([] : List Keyword).length + (if ([] : List Keyword).isEmpty then 0 else 1) < 30)) = true := by rfl) (hs : starEach [a] X.env = (false, eval a X.env) :: starEach [] X.env := by rfl) :
    VE X (.Call (.Attribute o "extend" apos) [a] [] cpos) (vM "list" opExtend to t) := ve_m p_extend PySem.F.plainAttrs_list PySem.F.slot_list_extend PySem.F.type_list_extend mt_extend ho ha hbase hfew hline hs
end
end Vl
namespace Vl
open PySem L2
/-- an exception: its class's name, its fields -/
structure Xv where
  C : Str
  fs : List (Str × D) := []
structure VEnds where
  nx : En → Prop
  rt : Sl → En → Prop
  bk : En → Prop := fun _ => False
  ct : En → Prop := fun _ => False
  ex : Xv → En → Prop := fun _ _ => False
def XAt (K : PySem.W.Frag) (mg : Str → Option Value) (F H : Hp) (x : Xv) (cls : Value) (d : Option Addr) : Prop :=
  mg x.C = some cls ∧ ((x.fs = [] ∧ d = none) ∨ x.fs ≠ [] ∧ ∃ dx vs, d = some dx ∧ H dx = some (.xd ((x.fs.map (·.1)).zip vs)) ∧ AtL K F (x.fs.map (·.2)) vs)
/-- what is wanted of an exception that leaves here -/
def FinX (X : Cx) (R F : Hp) (A : List Addr) (P : Xv → En → Prop) : Prop := ∃ W : WX, Takes X W ∧ ∀ x e' cls d σ' F' A' H', P x e' → Le F F' → A <+: A' → Rep X.K R F' A' σ' H' e' → XAt X.K X.mg F' H' x cls d → W cls d σ' H'
theorem FinX.tr {X : Cx} {R F F1 : Hp} {A A1 : List Addr} {P : Xv → En → Prop} (f : FinX X R F A P) (a : Le F F1) (b : A <+: A1) : FinX X R F1 A1 P := by
  obtain ⟨W, t, h⟩ := f
  exact ⟨W, t, fun x e' cls d σ' F' A' H' p h1 h2 => h x e' cls d σ' F' A' H' p (a.trans h1) (b.trans h2)⟩
theorem FinX.no {X : Cx} {R F : Hp} {A : List Addr} : FinX X R F A fun _ _ => False :=
  ⟨fun _ _ _ _ => False, fun u s' ⟨a, B, sI, pins, σ, H, cls, d, e, I, nb, up, sky, na, os, ag, w⟩ => w.elim, fun _ _ _ _ _ _ _ _ p => p.elim⟩
abbrev VTS := VEnds → En → Prop
structure FinS (X : Cx) (R F : Hp) (A : List Addr) (DV : VEnds) (D : Ends) : Prop where
  nx : ∀ e' σ' F' A' H', DV.nx e' → Le F F' → A <+: A' → Rep X.K R F' A' σ' H' e' → D.nx σ' H'
  bk : ∀ e' σ' F' A' H', DV.bk e' → Le F F' → A <+: A' → Rep X.K R F' A' σ' H' e' → D.bk σ' H'
  ct : ∀ e' σ' F' A' H', DV.ct e' → Le F F' → A <+: A' → Rep X.K R F' A' σ' H' e' → D.ct σ' H'
  rt : ∀ s e' v σ' F' A' H', DV.rt s e' → Le F F' → A <+: A' → Rep X.K R F' A' σ' H' e' → SlAt X.K F' A' v s → D.rt v H'
  ex : FinX X R F A DV.ex
theorem FinS.tr {X : Cx} {R F F1 : Hp} {A A1 : List Addr} {DV : VEnds} {D : Ends} (f : FinS X R F A DV D) (a : Le F F1) (b : A <+: A1) : FinS X R F1 A1 DV D :=
  ⟨fun e' σ' F' A' H' k h1 h2 => f.nx e' σ' F' A' H' k (a.trans h1) (b.trans h2), fun e' σ' F' A' H' k h1 h2 => f.bk e' σ' F' A' H' k (a.trans h1) (b.trans h2), fun e' σ' F' A' H' k h1 h2 => f.ct e' σ' F' A' H' k (a.trans h1) (b.trans h2),
    fun s e' v σ' F' A' H' k h1 h2 => f.rt s e' v σ' F' A' H' k (a.trans h1) (b.trans h2), f.ex.tr a b⟩
def liftS (X : Cx) (t : VTS) : TS := fun D σ H => ∃ R F A e DV, Rep X.K R F A σ H e ∧ t DV e ∧ FinS X R F A DV D
def VS (X : Cx) (st : Stmt) (t : VTS) : Prop := PS X st (liftS X t)
def VSs (X : Cx) (st : List Stmt) (t : VTS) : Prop := PSs X st (liftS X t)
def vNext : VTS := fun D e => D.nx e
def vSeq (t u : VTS) : VTS := fun D e => t { D with nx := u D } e
/-- the names outside ws are as they were -/
def Off (ws : List Nat) (σ σ' : L2.St) : Prop := σ'.length = σ.length ∧ ∀ i : Nat, i ∉ ws → σ'[i]? = σ[i]?
theorem Off.refl (ws : List Nat) (σ : L2.St) : Off ws σ σ := ⟨rfl, fun _ _ => rfl⟩
theorem Off.app {ws us : List Nat} {σ σ1 σ2 : L2.St} (a : Off ws σ σ1) (b : Off us σ1 σ2) : Off (ws ++ us) σ σ2 :=
  ⟨b.1.trans a.1, fun i h => (b.2 i fun z => h (List.mem_append_right _ z)).trans (a.2 i fun z => h (List.mem_append_left _ z))⟩
abbrev VTG := Sl → En → (En → Prop) → Prop
abbrev VTGs := List D → En → (En → Prop) → Prop
def FinG (K : PySem.W.Frag) (R F : Hp) (A : List Addr) (ws : List Nat) (σ : L2.St) (Kp : En → Prop) (Q : L2.St → Hp → Prop) : Prop := ∀ e' σ' F' A' H', Kp e' → Le F F' → A <+: A' → Off ws σ σ' → Rep K R F' A' σ' H' e' → Q σ' H'
def liftG (K : PySem.W.Frag) (ws : List Nat) (g : VTG) : TG := fun v σ H Q => ∃ R F A e s Kp, Rep K R F A σ H e ∧ SlAt K F A v s ∧ g s e Kp ∧ FinG K R F A ws σ Kp Q
def liftGs (K : PySem.W.Frag) (ws : List Nat) (g : VTGs) : TGs := fun vs σ H Q => ∃ R F A e ds Kp, Rep K R F A σ H e ∧ AtL K F ds vs ∧ g ds e Kp ∧ FinG K R F A ws σ Kp Q
def VG (X : Cx) (ex : Expr) (ws : List Nat) (g : VTG) : Prop := PG X ex (liftG X.K ws g)
def VGs (X : Cx) (ex : List Expr) (ws : List Nat) (g : VTGs) : Prop := PGs X ex (liftGs X.K ws g)
theorem PG.imp {X : Cx} {ex : Expr} {t t' : TG} (h : PG X ex t) (f : ∀ v σ H Q, t' v σ H Q → t v σ H Q) : PG X ex t' := by
  obtain ⟨run⟩ := h
  constructor
  intros
  apply run <;> first | assumption | (apply f; assumption)
theorem PGs.imp {X : Cx} {ex : List Expr} {t t' : TGs} (h : PGs X ex t) (f : ∀ v σ H Q, t' v σ H Q → t v σ H Q) : PGs X ex t' := by
  obtain ⟨run⟩ := h
  constructor
  intros
  apply run <;> first | assumption | (apply f; assumption)
theorem PI.imp {X : Cx} {tg ex : Expr} {t t' : TI} (h : PI X tg ex t) (f : ∀ σ H Q, t' σ H Q → t σ H Q) : PI X tg ex t' := by
  obtain ⟨run⟩ := h
  constructor
  intros
  apply run <;> first | assumption | (apply f; assumption)
def vgName (i : Nat) : VTG := fun s e Kp => Kp ⟨e.sl.set i (some s), e.st⟩
def vgNil : VTGs := fun ds e Kp => match ds with
  | [] => Kp e
  | _ => False
def vgCons (g : VTG) (u : VTGs) : VTGs := fun ds e Kp => match ds with
  | d :: r => g (.val d) e fun e1 => u r e1 Kp
  | [] => False
def vgTup (n : Nat) (u : VTGs) : VTG := fun s e Kp => match pk s e with
  | some (.tuple ds) => ds.length = n ∧ u ds e Kp
  | _ => False
def vgSub (to ti : VTE) : VTG := fun s e Kp => to e fun so e1 => ti e1 fun si e2 => asD s e2 fun d e3 => match so with
  | .obj j => (match pk si e3 with
    | some (.int k) => (match e3.st[j]? with
      | some (some (.l ds)) => ∃ n, ixN ds.length k = some n ∧ Kp ⟨e3.sl, e3.st.set j (some (.l (ds.set n d)))⟩
      | _ => False)
    | _ => False)
  | _ => False
section
variable {X : Cx} {pos : Pos}
theorem off_set (i : Nat) (v : Option V) (σ : L2.St) : Off [i] σ (σ.set i v) := ⟨List.length_set, fun k h => List.getElem?_set_ne (fun z => h (by simp [z]))⟩
theorem vg_name {i : Nat} {x : Str} (hN : X.N.Nodup) (hi : X.N[i]? = some x) (hx : Loc X.env.scope x) (hf : X.fn x = true ∨ X.env.scope.names.lookup x = some .local := by first | exact .inl rfl | exact .inr rfl | assumption) : VG X (.Name x pos) [i] (vgName i) :=
  PG.imp (pg_name hN hi hx hf) fun v σ H Q h => by
    obtain ⟨R, F, A, e, s, Kp, rep, a, k, fin⟩ := h
    exact fin _ _ F A H k (Le.refl F) (pfx_refl A) (off_set i _ σ) (rep.put a)
theorem vgs_nil : VGs X [] [] vgNil := PGs.imp pgs_nil fun vs σ H Q h => by
  obtain ⟨R, F, A, e, ds, Kp, rep, a, k, fin⟩ := h
  unfold vgNil at k
  split at k
  · cases a
    exact ⟨rfl, fin _ _ F A H k (Le.refl F) (pfx_refl A) (Off.refl _ _) rep⟩
  · exact k.elim
theorem vgs_cons {ex : Expr} {es : List Expr} {ws us : List Nat} {g : VTG} {u : VTGs} (h1 : VG X ex ws g) (h2 : VGs X es us u) (hs : (assignEach (ex :: es) X.env).map (·.2) = assign ex X.env :: (assignEach es X.env).map (·.2) := by rfl) : VGs X (ex :: es) (ws ++ us) (vgCons g u) := PGs.imp (pgs_cons h1 h2 hs) fun vs σ H Q h => by
  obtain ⟨R, F, A, e, ds, Kp, rep, a, k, fin⟩ := h
  unfold vgCons at k
  split at k
  · rename_i d r
    cases a with
    | cons a1 a2 => exact ⟨_, _, rfl, R, F, A, e, .val d, _, rep, a1, k, fun e1 σ1 F1 A1 H1 k1 l1 p1 o1 rep1 => ⟨R, F1, A1, e1, r, Kp, rep1, AtL.le l1 _ _ a2, k1, fun e2 σ2 F2 A2 H2 k2 l2 p2 o2 rep2 => fin _ _ _ _ _ k2 (l1.trans l2) (p1.trans p2) (o1.app o2) rep2⟩⟩
  · exact k.elim
theorem vg_tup {es : List Expr} {k : Nat} {t : VTGs} {n : Nat} {ws : List Nat} (hc : X.calm = true) (h : VGs X es ws t) (hn : (assignEach es X.env).length = n := by rfl) (hst : (assignEach es X.env).findIdx? (·.1) = none := by rfl) : VG X (.Tuple es k pos) ws (vgTup n t) := PG.imp (pg_tup hc h hn hst) fun v σ H Q h => by
  obtain ⟨R, F, A, e, s, Kp, rep, a, k, fin⟩ := h
  unfold vgTup at k
  split at k
  · rename_i ds hd
    obtain ⟨p, xs, rfl, q1, q2⟩ := (rep.pk a hd).tup
    exact ⟨p, xs, rfl, sqT_le rep.sub q1, by rw [q2.len]; exact k.1, R, F, A, e, ds, Kp, rep, q2, k.2, fin⟩
  · exact k.elim
theorem vg_sub {o i : Expr} {to ti : VTE} (ho : VE X o to) (hi : VE X i ti) (hp : ∀ {u w : TE}, PE X o u → PE X i w → PG X (.Subscript o i pos) (gSub u w rSetL)) : VG X (.Subscript o i pos) [] (vgSub to ti) := PG.imp (hp ho hi) fun v σ H Q h => by
  obtain ⟨R, F, A, e, s, Kp, rep, a, k, fin⟩ := h
  refine ⟨R, F, A, e, _, rep, k, fun so e1 x F1 A1 H1 k1 l1 p1 rep1 a1 => ⟨R, F1, A1, e1, _, rep1, k1, fun si e2 y F2 A2 H2 k2 l2 p2 rep2 a2 => ?_⟩⟩
  obtain ⟨d, e3, F3, k3, rep3, l3, a3⟩ := rep2.asD (a.le (l1.trans l2) (p1.trans p2)) k2
  have a2' := a2.le l3 (pfx_refl A2)
  have a1' := a1.le (l2.trans l3) p2
  have lz := (l1.trans l2).trans l3
  have pz := p1.trans p2
  cases so with
  | val _ => exact False.elim k3
  | kn _ => exact False.elim k3
  | exc _ => exact False.elim k3
  | obj j =>
    replace k3 : (match pk si e3 with | some (.int k) => (match e3.st[j]? with | some (some (.l ds)) => ∃ n, ixN ds.length k = some n ∧ Kp ⟨e3.sl, e3.st.set j (some (.l (ds.set n d)))⟩ | _ => False) | _ => False) := k3
    split at k3
    · rename_i k hk
      split at k3
      · rename_i ds hd
        obtain ⟨n, hn, k4⟩ := k3
        obtain ⟨b, eb, rfl⟩ := a1'
        obtain ⟨b', xs, q1, q2, q3, q4⟩ := rep3.lst hd
        rw [eb] at q1
        cases q1
        refine ⟨b, xs, k, n, rfl, (rep3.pk a2' hk).int, q3, by rw [q4.len]; exact hn, fin _ _ _ _ _ k4 lz pz (Off.refl _ _) (rep3.write eb hd (q4.set a3 n))⟩
      · exact k3.elim
    · exact k3.elim
theorem vss_nil : VSs X [] vNext := PSs.imp pss_nil fun D σ H h => by
  obtain ⟨R, F, A, e, DV, rep, k, fin⟩ := h
  exact fin.nx e σ F A H k (Le.refl F) (pfx_refl A) rep
theorem vss_one {st : Stmt} {t : VTS} (h : VS X st t) : VSs X [st] t := pss_one h
theorem vss_cons {st : Stmt} {rest : List Stmt} {t u : VTS} (h1 : VS X st t) (h2 : VSs X rest u) : VSs X (st :: rest) (vSeq t u) := PSs.imp (pss_cons h1 h2) fun D σ H h => by
  obtain ⟨R, F, A, e, DV, rep, k, fin⟩ := h
  exact ⟨R, F, A, e, _, rep, k, fun e1 σ1 F1 A1 H1 k1 l1 p1 rep1 => ⟨R, F1, A1, e1, DV, rep1, k1, fin.tr l1 p1⟩, fin.bk, fin.ct, fin.rt, fin.ex⟩
def vBreak : VTS := fun D e => D.bk e
def vCont : VTS := fun D e => D.ct e
def vDrop (t : VTE) : VTS := fun D e => t e fun _ e1 => D.nx e1
theorem vs_expr {ex : Expr} {t : VTE} (he : VE X ex t) (hs : swapsWith ex none pos.line X.env = pure false := by rfl) : VS X (.Expr ex pos) (vDrop t) := PS.imp (ps_expr he hs) fun D σ H h => by
  obtain ⟨R, F, A, e, DV, rep, k, fin⟩ := h
  exact ⟨R, F, A, e, _, rep, k, fun s e1 v F1 A1 H1 k1 l1 p1 rep1 a1 => fin.nx _ _ _ _ _ k1 l1 p1 rep1⟩
def vRet (t : VTE) : VTS := fun D e => t e D.rt
theorem vs_ret {ex : Expr} {t : VTE} (he : VE X ex t) : VS X (.Return (some ex) pos) (vRet t) := PS.imp (ps_ret he) fun D σ H h => by
  obtain ⟨R, F, A, e, DV, rep, k, fin⟩ := h
  exact ⟨R, F, A, e, _, rep, k, fun s e1 v F1 A1 H1 k1 l1 p1 rep1 a1 => fin.rt _ _ _ _ _ _ _ k1 l1 p1 rep1 a1⟩
def vRetN : VTS := fun D e => D.rt (.val .none) e
def vIfS (c : VTT) (t u : VTS) : VTS := fun D e => c e fun b e1 => if b = true then t D e1 else u D e1
theorem vs_if {c : Expr} {a b : List Stmt} {tc : VTT} {t u : VTS} (hc : VT X c tc) (ha : VSs X a t) (hb : VSs X b u) : VS X (.If c a b pos) (vIfS tc t u) := PS.imp (ps_if hc ha hb) fun D σ H h => by
  obtain ⟨R, F, A, e, DV, rep, k, fin⟩ := h
  refine ⟨R, F, A, e, _, rep, k, fun b e1 F1 A1 H1 k1 l1 p1 rep1 => ?_⟩
  cases b with
  | true => exact ⟨R, F1, A1, e1, DV, rep1, k1, fin.tr l1 p1⟩
  | false => exact ⟨R, F1, A1, e1, DV, rep1, k1, fin.tr l1 p1⟩
def vSet (i : Nat) (t : VTE) : VTS := fun D e => t e fun s e1 => D.nx ⟨e1.sl.set i (some s), e1.st⟩
theorem lift_set {i : Nat} {t : VTE} {te : TE} (D : Ends) (σ : L2.St) (H : Hp) (hte : ∀ Q, liftE X.K t σ H Q → te σ H Q) (h : liftS X (vSet i t) D σ H) : tAsg te (gName i) D σ H := by
  obtain ⟨R, F, A, e, DV, rep, k, fin⟩ := h
  exact hte _ ⟨R, F, A, e, _, rep, k, fun s e1 v F1 A1 H1 k1 l1 p1 rep1 a1 => fin.nx _ _ _ _ _ k1 l1 p1 (rep1.put a1)⟩
theorem vs_set {i : Nat} {x : Str} {ex : Expr} {t : VTE} {pos' : Pos} (hN : X.N.Nodup) (hi : X.N[i]? = some x) (hx : Loc X.env.scope x) (he : VE X ex t) (hs : swapsWith ex (some (.Name x pos')) pos.line X.env = pure false := by rfl) (hf : X.fn x = true ∨ X.env.scope.names.lookup x = some .local := by first | exact .inl rfl | exact .inr rfl | assumption) :
    VS X (.Assign [.Name x pos'] ex pos) (vSet i t) := PS.imp (ps_set hN hi hx he hs hf) fun D σ H h => lift_set D σ H (fun _ q => q) h
def vAsg (t : VTE) (g : VTG) : VTS := fun D e => t e fun s e1 => g s e1 D.nx
theorem vs_asg {tg ex : Expr} {t : VTE} {g : VTG} {ws : List Nat} (he : VE X ex t) (hg : VG X tg ws g) (hs : swapsWithSole [tg] ex pos.line X.env = pure false := by rfl) (hw : swappedStores [tg] ex X.env = pure none := by rfl) (h1 : (assignEach [tg] X.env).map (·.2) = [assign tg X.env] := by rfl) : VS X (.Assign [tg] ex pos) (vAsg t g) := PS.imp (ps_asg he hg hs hw h1) fun D σ H h => by
  obtain ⟨R, F, A, e, DV, rep, k, fin⟩ := h
  exact ⟨R, F, A, e, _, rep, k, fun s e1 v F1 A1 H1 k1 l1 p1 rep1 a1 => ⟨R, F1, A1, e1, s, DV.nx, rep1, a1, k1, fun e2 σ2 F2 A2 H2 k2 l2 p2 o2 rep2 => fin.nx _ _ _ _ _ k2 (l1.trans l2) (p1.trans p2) rep2⟩⟩
end
def dropNone {α : Type} : List (Option α) → List (Option α)
  | [] => []
  | x :: xs => match x, dropNone xs with
    | none, [] => []
    | x, r => x :: r
theorem dropNone_pre {α : Type} : ∀ l : List (Option α), dropNone l <+: l
  | [] => List.prefix_refl _
  | x :: xs => by
    have ih := dropNone_pre xs
    unfold dropNone
    split
    · exact List.nil_prefix
    · exact (List.prefix_cons_inj _).mpr ih
def clr (m : Nat) : Option Sl → Option Sl
  | some (.obj j) => if j < m then some (.obj j) else none
  | s => s
theorem clr_n (m : Nat) : clr m none = none := rfl
theorem clr_v (m : Nat) (d : D) : clr m (some (.val d)) = some (.val d) := rfl
theorem clr_k (m : Nat) (d : List D) : clr m (some (.kn d)) = some (.kn d) := rfl
theorem clr_o (m j : Nat) : clr m (some (.obj j)) = if j < m then some (.obj j) else none := rfl
def isMo : Option Ob → Bool
  | some (.mo _) => true
  | some (.sq _ _) => true
  | some (.ins _ _) => true
  | some (.mt _ _ _) => true
  | _ => false
def trimS (n : Nat) (st : List (Option Ob)) : List (Option Ob) := st.take n ++ dropNone (st.drop n)
def En.trim (n : Nat) (e : En) : En := if e.st.any isMo = true then e else ⟨e.sl.map (clr (trimS n e.st).length), trimS n e.st⟩
theorem trimS_pre (n : Nat) (st : List (Option Ob)) : trimS n st <+: st := by
  obtain ⟨t, ht⟩ := dropNone_pre (st.drop n)
  refine ⟨t, ?_⟩
  show st.take n ++ dropNone (st.drop n) ++ t = st
  rw [List.append_assoc, ht, List.take_append_drop]
theorem ObAt.noMo {K : PySem.W.Frag} {F : Hp} {A B : List Addr} {h : Option HO} : ∀ {ob : Ob}, isMo (Option.some ob) = false → ObAt K F A h ob → ObAt K F B h ob
  | .l _, _, x => x
  | .m _, _, x => x
  | .mo _, n, _ => by cases n
  | .lk _ _ _, _, x => x
  | .sq _ _, n, _ => by cases n
  | .ins _ _, n, _ => by cases n
  | .mt _ _ _, n, _ => by cases n
theorem Rep.trim {K : PySem.W.Frag} {R F : Hp} {A A1 : List Addr} {σ : L2.St} {H : Hp} {e : En} (r : Rep K R F A σ H e) {n : Nat} (p : A1 <+: A) (hn : A1.length = n) : ∃ A', A1 <+: A' ∧ Rep K R F A' σ H (e.trim n) := by
  by_cases hmo : e.st.any isMo = true
  · refine ⟨A, p, ?_⟩
    unfold En.trim
    rw [if_pos hmo]
    exact r
  have et : e.trim n = ⟨e.sl.map (clr (trimS n e.st).length), trimS n e.st⟩ := by
    unfold En.trim
    rw [if_neg hmo]
  rw [et]
  have pre := trimS_pre n e.st
  have hm : (trimS n e.st).length ≤ e.st.length := pre.length_le
  have pa : A.take (trimS n e.st).length <+: A := List.take_prefix _ _
  refine ⟨A.take (trimS n e.st).length, ?_, r.sub, r.keep, fun a o z => ⟨(r.apart a o z).1, fun hm => (r.apart a o z).2 (List.mem_of_mem_take hm)⟩, by simp [r.len], ?_, ?_, fun a ha => r.live a (List.mem_of_mem_take ha), fun i s z => ?_, fun j ob z => ?_, r.tabs.sub fun a ha => List.mem_of_mem_take ha⟩
  · have h1 : A1.length ≤ A.length := p.length_le
    have h2 : n ≤ (trimS n e.st).length := by
      show n ≤ (e.st.take n ++ dropNone (e.st.drop n)).length
      rw [List.length_append, List.length_take, r.lenA]
      omega
    exact List.prefix_of_prefix_length_le p pa (by rw [List.length_take, ← r.lenA]; have := r.lenA; omega)
  · show (trimS n e.st).length = _
    rw [List.length_take, ← r.lenA]
    omega
  · exact (List.take_sublist _ _).nodup r.nodup
  · have z' : (e.sl.map (clr (trimS n e.st).length))[i]? = some (some s) := z
    rw [List.getElem?_map] at z'
    obtain ⟨t, ht, hs⟩ := Option.map_eq_some_iff.mp z'
    cases t with
    | none => cases hs
    | some t =>
      obtain ⟨v, h1, h2⟩ := r.slot i t ht
      cases t with
      | val d =>
        cases hs
        exact ⟨v, h1, h2⟩
      | kn d =>
        cases hs
        exact ⟨v, h1, h2⟩
      | exc d =>
        cases hs
        exact ⟨v, h1, h2⟩
      | obj j =>
        replace hs : (if j < (trimS n e.st).length then some (Sl.obj j) else none) = some s := hs
        split at hs
        · rename_i hj
          cases hs
          obtain ⟨a, e1, e2⟩ := h2
          exact ⟨v, h1, a, by rw [List.getElem?_take_of_lt hj]; exact e1, e2⟩
        · cases hs
  · have z' : (trimS n e.st)[j]? = some (some ob) := z
    have hj := (List.getElem?_eq_some_iff.mp z').1
    have z2 : e.st[j]? = some (some ob) := by
      obtain ⟨t, ht⟩ := pre
      rw [← ht, List.getElem?_append_left hj]
      exact z'
    obtain ⟨a, h1, h2, h3⟩ := r.store j ob z2
    refine ⟨a, by rw [List.getElem?_take_of_lt hj]; exact h1, h2, h3.noMo ?_⟩
    cases q : isMo (some ob) with
    | false => rfl
    | true => exact absurd (List.any_eq_true.mpr ⟨_, List.mem_of_getElem? z2, q⟩) hmo
def wl (c : VTT) (tb : VTS) (n : Nat) : Nat → VEnds → En → Prop
  | 0, _, _ => False
  | m + 1, D, e => c e fun b e1 => if b = true then tb { D with nx := fun e' => wl c tb n m D (e'.trim n), ct := fun e' => wl c tb n m D (e'.trim n), bk := D.nx } e1 else D.nx e1
def okc (c : Option (En → Prop)) (e : En) : Prop := match c with
  | none => True
  | some c => c e
def wth (c : Option (En → Prop)) (e : En) (p : Prop) : Prop := match c with
  | none => p
  | some c => c e ∧ p
theorem wth_ok {c : Option (En → Prop)} {e : En} {p : Prop} (h : wth c e p) : okc c e ∧ p := by
  cases c with
  | none => exact ⟨trivial, h⟩
  | some c => exact h
structure ItOk (K : PySem.W.Frag) (F : Hp) (A : List Addr) (chk : Option (En → Prop)) (ds : List D) (J : It) : Prop where
  go : ∀ {R F' : Hp} {A' : List Addr} {σ' : L2.St} {H' : Hp} {e' : En} (i : Nat) (d : D), ds[i]? = some d → Le F F' → A <+: A' → Rep K R F' A' σ' H' e' → okc chk e' → J.go i H' ∧ ∀ x H3, J.yld i H' x H3 → ∃ F3, Le F' F3 ∧ Rep K R F3 A' σ' H3 e' ∧ At K F3 d x
  stop : ∀ {R F' : Hp} {A' : List Addr} {σ' : L2.St} {H' : Hp} {e' : En}, Le F F' → A <+: A' → Rep K R F' A' σ' H' e' → okc chk e' → J.stop ds.length H'
abbrev VTI := En → (List D → Option (En → Prop) → En → Prop) → Prop
def liftI (K : PySem.W.Frag) (w : VTI) : TI := fun σ H Q => ∃ R F A e Kp, Rep K R F A σ H e ∧ w e Kp ∧ ∀ ds chk e' F' A' H' J, Kp ds chk e' → Le F F' → A <+: A' → Rep K R F' A' σ H' e' → ItOk K F' A' chk ds J → Q J H'
def VI (X : Cx) (tg it : Expr) (w : VTI) : Prop := PI X tg it (liftI X.K w)
def fl (g : VTG) (tb : VTS) (chk : Option (En → Prop)) (n : Nat) : List D → VEnds → En → Prop
  | [], D, e => wth chk e (D.nx e)
  | d :: ds, D, e => wth chk e (g (.val d) e fun e1 => tb { D with nx := fun e' => fl g tb chk n ds D (e'.trim n), ct := fun e' => fl g tb chk n ds D (e'.trim n), bk := D.nx } e1)
def vFor (w : VTI) (g : VTG) (tb : VTS) : VTS := fun D e => w e fun ds chk e1 => fl g tb chk e1.st.length ds D e1
def chkOf (s : Sl) (ds : List D) : Option (En → Prop) := match s with
  | .obj j => some fun e => e.st[j]? = some (some (.l ds))
  | _ => none
def vSeqI (t : VTE) : VTI := fun e Kp => t e fun s e1 => match pk s e1 with
  | some (.list ds) => Kp ds (chkOf s ds) e1
  | _ => False
def vTupI (t : VTE) : VTI := fun e Kp => t e fun s e1 => match pk s e1 with
  | some (.tuple ds) => Kp ds none e1
  | _ => False
section
variable {X : Cx} {tg a b : Expr} {ta : VTE} {pos : Pos}
/-- a list that is walked stands as it did -/
theorem seq_at {K : PySem.W.Frag} {R R' F F' : Hp} {A A' : List Addr} {σ σ' : L2.St} {H H' : Hp} {e e' : En} {s : Sl} {v : V} {ds : List D} (rep : Rep K R F A σ H e) (a : SlAt K F A v s) (h : pk s e = some (.list ds)) (l : Le F F') (p : A <+: A') (rep' : Rep K R' F' A' σ' H' e') (c : okc (chkOf s ds) e') :
    ∃ q xs, v = .ref q ∧ SqL K H' q xs ∧ AtL K F' ds xs := by
  cases s with
  | val d =>
    cases h
    exact rep'.pk (s := .val (.list ds)) (d := .list ds) (a.le l p) rfl
  | kn d =>
    cases h
    exact rep'.pk (s := .kn ds) (d := .list ds) (SlAt.le (x := .kn ds) l p a) rfl
  | exc d => cases h
  | obj j =>
    have c' : e'.st[j]? = some (some (.l ds)) := c
    refine rep'.pk (s := .obj j) (d := .list ds) (SlAt.le (x := .obj j) l p a) ?_
    show (match e'.st[j]? with | some (some (.l ds)) => some (PyData.list ds) | _ => none) = _
    rw [c']
theorem vi_list (ha : VE X a ta) : VI X tg a (vSeqI ta) := PI.imp (pi_list ha) fun σ H Q h => by
  obtain ⟨R, F, A, e, Kp, rep, k, fin⟩ := h
  refine ⟨R, F, A, e, _, rep, k, fun s e1 v F1 A1 H1 k1 l1 p1 rep1 a1 => ?_⟩
  split at k1
  · rename_i ds hd
    obtain ⟨q, xs, rfl, q1, q2⟩ := rep1.pk a1 hd
    refine ⟨q, rfl, ⟨xs, q1⟩, fin _ _ _ _ _ _ _ k1 l1 p1 rep1 ⟨fun {R' F' A' σ' H' e'} i d hi l p rep' c => ?_, fun {R' F' A' σ' H' e'} l p rep' c => ?_⟩⟩
    · obtain ⟨q', ys, ev, r1, r2⟩ := seq_at rep1 a1 hd l p rep' c
      cases ev
      obtain ⟨u, hu, au⟩ := r2.get hi
      refine ⟨⟨ys, u, r1, hu⟩, fun x H3 y => ?_⟩
      obtain ⟨rfl, y⟩ := y
      have := y ys r1
      rw [hu] at this
      cases this
      exact ⟨F', Le.refl _, rep', au⟩
    · obtain ⟨q', ys, ev, r1, r2⟩ := seq_at rep1 a1 hd l p rep' c
      cases ev
      exact ⟨ys, r1, by rw [r2.len]; exact Nat.le_refl _⟩
  · exact k1.elim
theorem vi_tup (ha : VE X a ta) : VI X tg a (vTupI ta) := PI.imp (pi_tup ha) fun σ H Q h => by
  obtain ⟨R, F, A, e, Kp, rep, k, fin⟩ := h
  refine ⟨R, F, A, e, _, rep, k, fun s e1 v F1 A1 H1 k1 l1 p1 rep1 a1 => ?_⟩
  split at k1
  · rename_i ds hd
    obtain ⟨q, xs, rfl, q1, q2⟩ := (rep1.pk a1 hd).tup
    refine ⟨q, rfl, ⟨xs, sqT_le rep1.sub q1⟩, fin _ _ _ _ _ _ _ k1 l1 p1 rep1 ⟨fun {R' F' A' σ' H' e'} i d hi l p rep' c => ?_, fun {R' F' A' σ' H' e'} l p rep' c => ?_⟩⟩
    · obtain ⟨u, hu, au⟩ := q2.get hi
      have sq := sqT_le rep'.sub (sqT_le l q1)
      refine ⟨⟨xs, u, sq, hu⟩, fun x H3 y => ?_⟩
      obtain ⟨rfl, y⟩ := y
      have := y xs sq
      rw [hu] at this
      cases this
      exact ⟨F', Le.refl _, rep', At.le l _ _ au⟩
    · exact ⟨xs, sqT_le rep'.sub (sqT_le l q1), by rw [q2.len]; exact Nat.le_refl _⟩
  · exact k1.elim
def rng (lo : Int) (n : Nat) : List D := (List.range n).map fun i => PyData.int (lo + (i : Nat))
theorem rng_len (lo : Int) (n : Nat) : (rng lo n).length = n := by simp [rng]
theorem rng_get {lo : Int} {n i : Nat} {d : D} (h : (rng lo n)[i]? = some d) : i < n ∧ d = .int (lo + (i : Nat)) := by
  have hi := (List.getElem?_eq_some_iff.mp h).1
  rw [rng_len] at hi
  refine ⟨hi, ?_⟩
  unfold rng at h
  rw [List.getElem?_map, List.getElem?_range hi] at h
  simp at h
  exact h.symm
theorem it_rng {K : PySem.W.Frag} {F : Hp} {A : List Addr} {lo : Int} {n : Nat} : ItOk K F A none (rng lo n) (Itr lo n) :=
  ⟨fun {R' F' A' σ' H' e'} i d hi l p rep' c => by
    obtain ⟨h1, rfl⟩ := rng_get hi
    refine ⟨h1, fun x H3 y => ?_⟩
    obtain ⟨rfl, rfl⟩ := y
    exact ⟨F', Le.refl _, rep', .int _⟩,
   fun {R' F' A' σ' H' e'} l p rep' c => by
    show n ≤ (rng lo n).length
    rw [rng_len]
    exact Nat.le_refl _⟩
def vRng1 (t : VTA) : VTI := fun e Kp => t e fun ss e1 => match ss with
  | [s] => (match pk s e1 with
    | some (.int j) => -(2 ^ 62) ≤ j ∧ j < 2 ^ 62 ∧ Kp (rng 0 j.toNat) none e1
    | _ => False)
  | _ => False
def vRng2 (t : VTA) : VTI := fun e Kp => t e fun ss e1 => match ss with
  | [s, u] => (match pk s e1, pk u e1 with
    | some (.int i), some (.int j) => (-(2 ^ 62) ≤ i ∧ i < 2 ^ 62 ∧ -(2 ^ 62) ≤ j ∧ j < 2 ^ 62) ∧ Kp (rng i (j - i).toNat) none e1
    | _, _ => False)
  | _ => False
theorem vi_range1 {t : VTA} {p pos : Pos} (hg : Gl X "range") (hm : X.mg "range" = none) (ha : VA X [a] t) (hs : starEach [a] X.env = [(false, eval a X.env)] := by rfl) : VI X tg (.Call (.Name "range" p) [a] [] pos) (vRng1 t) := PI.imp (pi_range1 hg hm ha hs) fun σ H Q h => by
  obtain ⟨R, F, A, e, Kp, rep, k, fin⟩ := h
  refine ⟨R, F, A, e, _, rep, k, fun ss e1 vs F1 A1 H1 k1 l1 p1 rep1 a1 => ?_⟩
  split at k1
  · obtain ⟨x, rfl, a2⟩ := a1.one
    split at k1
    · rename_i j hj
      exact ⟨j, by rw [(rep1.pk a2 hj).int], k1.1, k1.2.1, fin _ _ _ _ _ _ _ k1.2.2 l1 p1 rep1 it_rng⟩
    · exact k1.elim
  · exact k1.elim
/-- pairs: a place and a thing; two things -/
def enumD : Nat → List D → List D
  | _, [] => []
  | k, d :: ds => .tuple [.int (k : Nat), d] :: enumD (k + 1) ds
def zipD : List D → List D → List D
  | d :: ds, c :: cs => .tuple [d, c] :: zipD ds cs
  | _, _ => []
theorem zipD_len : ∀ (ds cs : List D), (zipD ds cs).length = min ds.length cs.length
  | [], _ => by simp [zipD]
  | d :: ds, [] => by simp [zipD]
  | d :: ds, c :: cs => by
    show (zipD ds cs).length + 1 = _
    rw [zipD_len ds cs]
    simp only [List.length_cons]
    omega
theorem zipD_get : ∀ {ds cs : List D} {i : Nat} {c : D}, (zipD ds cs)[i]? = some c → ∃ x y, ds[i]? = some x ∧ cs[i]? = some y ∧ c = .tuple [x, y]
  | [], _, _, _, h => by simp [zipD] at h
  | d :: ds, [], _, _, h => by simp [zipD] at h
  | d :: ds, c' :: cs, 0, c, h => by
    simp [zipD] at h
    exact ⟨d, c', rfl, rfl, h.symm⟩
  | d :: ds, c' :: cs, i + 1, c, h => by
    obtain ⟨x, y, h1, h2, h3⟩ := zipD_get (ds := ds) (cs := cs) (i := i) (c := c) (by simpa [zipD] using h)
    exact ⟨x, y, by simpa using h1, by simpa using h2, h3⟩
def vEnum (t : VTA) : VTI := fun e Kp => t e fun ss e1 => match ss with
  | [s] => (match pk s e1 with
    | some (.list ds) => Kp (enumD 0 ds) (chkOf s ds) e1
    | _ => False)
  | _ => False
def both (c d : Option (En → Prop)) : Option (En → Prop) := match c, d with
  | none, x => x
  | x, none => x
  | some c, some d => some fun e => c e ∧ d e
theorem both_ok {c d : Option (En → Prop)} {e : En} (h : okc (both c d) e) : okc c e ∧ okc d e := by
  cases c <;> cases d
  · exact ⟨trivial, trivial⟩
  · exact ⟨trivial, h⟩
  · exact ⟨h, trivial⟩
  · exact h
def vZip (t : VTA) : VTI := fun e Kp => t e fun ss e1 => match ss with
  | [s, u] => (match pk s e1, pk u e1 with
    | some (.list ds), some (.list cs) => Kp (zipD ds cs) (both (chkOf s ds) (chkOf u cs)) e1
    | _, _ => False)
  | _ => False
theorem vi_zip {t : VTA} {p pos tpos : Pos} {elts : List Expr} {kk : Nat} (hg : Gl X "zip") (hm : X.mg "zip" = none) (ha : VA X [a, b] t) (hs : starEach [a, b] X.env = (false, eval a X.env) :: starEach [b] X.env := by rfl) (hpl : (backTo pos (starEach [b] X.env)).any (·.1) = false := by rfl) :
    VI X (.Tuple elts kk tpos) (.Call (.Name "zip" p) [a, b] [] pos) (vZip t) := PI.imp (pi_zip hg hm ha hs hpl) fun σ H Q h => by
  obtain ⟨R, F, A, e, Kp, rep, k, fin⟩ := h
  refine ⟨R, F, A, e, _, rep, k, fun ss e1 vs F1 A1 H1 k1 l1 p1 rep1 a1 => ?_⟩
  split at k1
  · obtain ⟨x, y, rfl, a2, a3⟩ := a1.two
    split at k1
    · rename_i ds cs hd hc
      obtain ⟨q, xs, rfl, q1, q2⟩ := rep1.pk a2 hd
      obtain ⟨q', xs', rfl, q1', q2'⟩ := rep1.pk a3 hc
      refine ⟨q, q', xs, xs', rfl, q1, q1', fin _ _ _ _ _ _ _ k1 l1 p1 rep1 ⟨fun {R' F' A' σ' H' e'} i d hi l p rep' c => ?_, fun {R' F' A' σ' H' e'} l p rep' c => ?_⟩⟩
      · obtain ⟨c1, c2⟩ := both_ok c
        obtain ⟨_, ys, ev, r1, r2⟩ := seq_at rep1 a2 hd l p rep' c1
        cases ev
        obtain ⟨_, ys', ev, r1', r2'⟩ := seq_at rep1 a3 hc l p rep' c2
        cases ev
        obtain ⟨d1, d2, h1, h2, rfl⟩ := zipD_get hi
        obtain ⟨u, hu, au⟩ := r2.get h1
        obtain ⟨u', hu', au'⟩ := r2'.get h2
        refine ⟨⟨ys, ys', u, u', r1, r1', hu, hu'⟩, fun x H3 y => ?_⟩
        obtain ⟨T, z, z', rfl, hT, rfl, y, y'⟩ := y
        have e1 := y ys r1
        rw [hu] at e1
        cases e1
        have e1 := y' ys' r1'
        rw [hu'] at e1
        cases e1
        obtain ⟨rep3, l3⟩ := rep'.fresh hT (.tup [u, u'])
        exact ⟨_, l3, rep3, .tup (SqT.of upd_same) (.cons (At.le l3 _ _ au) (.cons (At.le l3 _ _ au') .nil))⟩
      · obtain ⟨c1, c2⟩ := both_ok c
        obtain ⟨_, ys, ev, r1, r2⟩ := seq_at rep1 a2 hd l p rep' c1
        cases ev
        obtain ⟨_, ys', ev, r1', r2'⟩ := seq_at rep1 a3 hc l p rep' c2
        cases ev
        have e1 := r2.len
        have e2 := r2'.len
        refine ⟨ys, ys', r1, r1', ?_⟩
        rw [zipD_len]
        omega
    · exact k1.elim
  · exact k1.elim
end
end Vl
namespace Vl
open PySem L2
theorem wipe_not {σ : L2.St} {i : Nat} : ∀ {vs : List Nat}, i ∉ vs → (wipe σ vs)[i]? = σ[i]?
  | [], _ => rfl
  | v :: vs, h => by
    have h1 : v ≠ i := fun z => h (by simp [z])
    show ((wipe σ vs).set v none)[i]? = _
    rw [List.getElem?_set_ne h1]
    exact wipe_not fun z => h (List.mem_cons_of_mem _ z)
theorem wipe_is {σ : L2.St} {i : Nat} : ∀ {vs : List Nat}, i ∈ vs → i < σ.length → (wipe σ vs)[i]? = some none
  | [], h, _ => by cases h
  | v :: vs, h, hl => by
    show ((wipe σ vs).set v none)[i]? = _
    by_cases q : v = i
    · subst q
      rw [List.getElem?_set_self (by rw [wipe_length]; exact hl)]
    · rw [List.getElem?_set_ne q]
      refine wipe_is ?_ hl
      rcases List.mem_cons.mp h with z | z
      · exact absurd z.symm q
      · exact z
theorem wipe_off {ws vs : List Nat} {σ σ2 : L2.St} (o : Off ws (wipe σ vs) σ2) (hw : ∀ i ∈ ws, i ∈ vs) : wipe σ2 vs = wipe σ vs := by
  have hl : σ2.length = σ.length := by rw [o.1, wipe_length]
  refine List.ext_getElem? fun i => ?_
  by_cases q : i ∈ vs
  · rcases Nat.lt_or_ge i σ.length with h | h
    · rw [wipe_is q h, wipe_is q (by omega)]
    · rw [List.getElem?_eq_none (by rw [wipe_length]; omega), List.getElem?_eq_none (by rw [wipe_length]; omega)]
  · rw [wipe_not q]
    exact o.2 i fun z => q (hw i z)
def wipeE (sl : List (Option Sl)) : List Nat → List (Option Sl)
  | [] => sl
  | v :: vs => (wipeE sl vs).set v none
def En.wipe (e : En) (vs : List Nat) : En := ⟨wipeE e.sl vs, e.st⟩
theorem wipeE_len (sl : List (Option Sl)) : ∀ vs, (wipeE sl vs).length = sl.length
  | [] => rfl
  | v :: vs => by
    show ((wipeE sl vs).set v none).length = _
    rw [List.length_set, wipeE_len sl vs]
theorem wipeE_at {sl : List (Option Sl)} {i : Nat} {s : Sl} : ∀ {vs : List Nat}, (wipeE sl vs)[i]? = some (some s) → i ∉ vs ∧ sl[i]? = some (some s)
  | [], h => ⟨by simp, h⟩
  | v :: vs, h => by
    have h' : ((wipeE sl vs).set v none)[i]? = some (some s) := h
    by_cases q : v = i
    · subst q
      have hl : v < (wipeE sl vs).length := by
        have := (List.getElem?_eq_some_iff.mp h').1
        simpa using this
      rw [List.getElem?_set_self hl] at h'
      cases h'
    · rw [List.getElem?_set_ne q] at h'
      obtain ⟨h1, h2⟩ := wipeE_at h'
      exact ⟨fun z => by
        rcases List.mem_cons.mp z with z | z
        · exact q z.symm
        · exact h1 z, h2⟩
/-- no name of vs has a value -/
def Bare (vs : List Nat) (e : En) : Prop := ∀ (i : Nat) (s : Sl), e.sl[i]? = some (some s) → i ∉ vs
theorem bare_wipe (vs : List Nat) (e : En) : Bare vs (e.wipe vs) := fun i s h => (wipeE_at h).1
theorem bare_trim {vs : List Nat} {e : En} (b : Bare vs e) (n : Nat) : Bare vs (e.trim n) := fun i s h => by
  by_cases hmo : e.st.any isMo = true
  · unfold En.trim at h
    rw [if_pos hmo] at h
    exact b i s h
  have h' : (e.sl.map (clr (trimS n e.st).length))[i]? = some (some s) := by
    unfold En.trim at h
    rw [if_neg hmo] at h
    exact h
  rw [List.getElem?_map] at h'
  obtain ⟨t, ht, hs⟩ := Option.map_eq_some_iff.mp h'
  cases t with
  | none => cases hs
  | some t => exact b i t ht
section
variable {K : PySem.W.Frag} {R F : Hp} {A : List Addr} {σ : L2.St} {H : Hp} {e : En}
theorem Rep.wiped (r : Rep K R F A σ H e) (vs : List Nat) : Rep K R F A (wipe σ vs) H (e.wipe vs) := by
  refine r.weak (by rw [wipeE_len, wipe_length]; exact r.len) fun i s h => ?_
  obtain ⟨h1, h2⟩ := wipeE_at h
  obtain ⟨v, h3, h4⟩ := r.slot i s h2
  exact ⟨v, by rw [wipe_not h1]; exact h3, h4⟩
theorem Rep.wiped2 {ws vs : List Nat} {σ2 : L2.St} (r : Rep K R F A σ2 H e) (o : Off ws (wipe σ vs) σ2) (hw : ∀ i ∈ ws, i ∈ vs) : Rep K R F A (wipe σ vs) H (e.wipe vs) := by
  refine r.weak (by rw [wipeE_len, r.len, o.1]) fun i s h => ?_
  obtain ⟨h1, h2⟩ := wipeE_at h
  obtain ⟨v, h3, h4⟩ := r.slot i s h2
  exact ⟨v, by rw [← o.2 i fun z => h1 (hw i z)]; exact h3, h4⟩
theorem Rep.unwipe {vs : List Nat} (r : Rep K R F A (wipe σ vs) H e) (b : Bare vs e) : Rep K R F A σ H e := by
  refine r.weak (by rw [r.len, wipe_length]) fun i s h => ?_
  obtain ⟨v, h3, h4⟩ := r.slot i s h
  exact ⟨v, by rw [← wipe_not (b i s h)]; exact h3, h4⟩
/-- a new list that is kept -/
theorem Rep.hold (r : Rep K R F A σ H e) {p : Addr} (hp : H p = none) (o : HO) : Rep K (upd R p o) F A σ (upd H p o) e := by
  have hF : F p = none := r.sub.free hp
  have hA : p ∉ A := fun hm => by
    obtain ⟨u, hu⟩ := r.live p hm
    rw [hu] at hp
    cases hp
  have l2 := Le.new (o := o) hp
  refine ⟨r.sub.trans l2, fun b u z => ?_, fun a u z => ?_, r.len, r.lenA, r.nodup, fun a ha => ?_, r.slot, fun j ds z => ?_, r.tabs.hold hp⟩
  · by_cases q : b = p
    · subst q
      rw [upd_same] at z ⊢
      exact z
    · rw [upd_ne q] at z ⊢
      exact r.keep _ _ z
  · by_cases q : a = p
    · subst q
      exact ⟨hF, hA⟩
    · rw [upd_ne q] at z
      exact r.apart a u z
  · obtain ⟨u, hu⟩ := r.live a ha
    exact ⟨u, l2 _ _ hu⟩
  · obtain ⟨a, h1, h2, h3⟩ := r.store j ds z
    exact ⟨a, h1, h2, h3.le (Le.refl F) (pfx_refl A) fun u e => l2 _ _ e⟩
/-- what is kept is changed by its keeper -/
theorem Rep.rehold {p : Addr} {o o' : HO} (r : Rep K (upd R p o) F A σ H e) : Rep K (upd R p o') F A σ (upd H p o') e := by
  obtain ⟨hF, hA⟩ := r.apart p o upd_same
  refine ⟨fun b u z => ?_, fun b u z => ?_, fun a u z => ?_, r.len, r.lenA, r.nodup, fun a ha => ?_, r.slot, fun j ds z => ?_, r.tabs.rehold⟩
  · have q : b ≠ p := fun q => by
      rw [q, hF] at z
      cases z
    rw [upd_ne q]
    exact r.sub _ _ z
  · by_cases q : b = p
    · subst q
      rw [upd_same] at z ⊢
      exact z
    · rw [upd_ne q] at z ⊢
      exact r.keep b u (by rw [upd_ne q]; exact z)
  · by_cases q : a = p
    · subst q
      exact ⟨hF, hA⟩
    · rw [upd_ne q] at z
      exact r.apart a u (by rw [upd_ne q]; exact z)
  · have q : a ≠ p := fun q => hA (q ▸ ha)
    obtain ⟨u, hu⟩ := r.live a ha
    exact ⟨u, by rw [upd_ne q]; exact hu⟩
  · obtain ⟨a, h1, h2, h3⟩ := r.store j ds z
    have q : a ≠ p := fun q => hA (by rw [← q]; exact List.mem_of_getElem? h1)
    exact ⟨a, h1, h2, by rw [upd_ne q]; exact h3⟩
/-- what is kept stands still from now on -/
theorem Rep.give {p : Addr} {o : HO} (r : Rep K (upd R p o) F A σ H e) (hR : R p = none) : Rep K R (upd F p o) A σ H e ∧ Le F (upd F p o) := by
  obtain ⟨hF, hA⟩ := r.apart p o upd_same
  have l := Le.new (o := o) hF
  have kR : Le R (upd R p o) := Le.new hR
  refine ⟨⟨fun b u z => ?_, kR.trans r.keep, fun a u z => ?_, r.len, r.lenA, r.nodup, r.live, fun i s z => ?_, fun j ds z => ?_, r.tabs.give⟩, l⟩
  · by_cases q : b = p
    · subst q
      rw [upd_same] at z
      cases z
      exact r.keep _ _ upd_same
    · rw [upd_ne q] at z
      exact r.sub _ _ z
  · have q : a ≠ p := fun q => by
      rw [q, hR] at z
      cases z
    obtain ⟨h1, h2⟩ := r.apart a u (kR _ _ z)
    exact ⟨by rw [upd_ne q]; exact h1, h2⟩
  · obtain ⟨v, h1, h2⟩ := r.slot i s z
    exact ⟨v, h1, h2.le l (pfx_refl A)⟩
  · obtain ⟨a, h1, h2, h3⟩ := r.store j ds z
    have q : a ≠ p := fun q => hA (by rw [← q]; exact List.mem_of_getElem? h1)
    exact ⟨a, h1, by rw [upd_ne q]; exact h2, h3.le l (pfx_refl A) fun _ e => e⟩
/-- what is kept goes into the store -/
theorem Rep.giveOb {p : Addr} {o : HO} {ob : Ob} (r : Rep K (upd R p o) F A σ H e) (hR : R p = none) (hx : ObAt K F (A ++ [p]) (some o) ob) : Rep K R F (A ++ [p]) σ H ⟨e.sl, e.st ++ [some ob]⟩ ∧ A <+: A ++ [p] := by
  obtain ⟨hF, hA⟩ := r.apart p _ upd_same
  have hH : H p = some o := r.keep _ _ upd_same
  have kR : Le R (upd R p o) := Le.new hR
  have pf : A <+: A ++ [p] := ⟨[p], rfl⟩
  refine ⟨⟨r.sub, kR.trans r.keep, fun a u z => ⟨(r.apart a u (kR _ _ z)).1, fun hm => ?_⟩, r.len, ?_, ?_, fun a ha => ?_, fun i s z => ?_, fun j cs z => ?_, r.tabs.giveOb⟩, pf⟩
  · rcases List.mem_append.mp hm with hm | hm
    · exact (r.apart a u (kR _ _ z)).2 hm
    · rw [List.mem_singleton.mp hm, hR] at z
      cases z
  · simp [r.lenA]
  · rw [List.nodup_append]
    exact ⟨r.nodup, by simp, fun a ha b hb q => hA (by rw [List.mem_singleton.mp hb] at q; exact q ▸ ha)⟩
  · rcases List.mem_append.mp ha with ha | ha
    · exact r.live a ha
    · rw [List.mem_singleton.mp ha]
      exact ⟨_, hH⟩
  · obtain ⟨v, h1, h2⟩ := r.slot i s z
    exact ⟨v, h1, h2.le (Le.refl F) pf⟩
  · have z' : (e.st ++ [some ob])[j]? = some (some cs) := z
    by_cases hj : j < e.st.length
    · rw [List.getElem?_append_left hj] at z'
      obtain ⟨a, h1, h2, h3⟩ := r.store j cs z'
      exact ⟨a, pfx_get pf h1, h2, h3.le (Le.refl F) pf fun _ e => e⟩
    · rw [List.getElem?_append_right (by omega)] at z'
      have hj0 : j - e.st.length = 0 := by
        rcases Nat.eq_zero_or_pos (j - e.st.length) with q | q
        · exact q
        · rw [List.getElem?_eq_none (by simp; omega)] at z'
          cases z'
      rw [hj0] at z'
      simp at z'
      subst z'
      refine ⟨p, ?_, hF, by rw [hH]; exact hx⟩
      rw [List.getElem?_append_right (by rw [← r.lenA]; omega), ← r.lenA, hj0] <;> rfl
end
/-- the turns of a comprehension: what is left, what is made -/
def cl (g : VTG) (tt : VTT) (te : VTE) (chk : Option (En → Prop)) (vs : List Nat) (n : Nat) : List D → List D → En → (List D → En → Prop) → Prop
  | [], acc, e, Kp => wth chk e (Kp acc e)
  | d :: ds, acc, e, Kp => wth chk e (g (.val d) e fun e1 => tt e1 fun b e2 => if b = true then te e2 fun s e3 => asD s e3 fun y e4 => acc.length < sizeLine ∧ cl g tt te chk vs n ds (acc ++ [y]) ((e4.wipe vs).trim n) Kp
      else cl g tt te chk vs n ds acc ((e2.wipe vs).trim n) Kp)
def vLcK (w : VTI) (g : VTG) (tt : VTT) (te : VTE) (vs : List Nat) (fin : List D → En → KE → Prop) : VTE := fun e Kp => w e fun ds chk e1 => cl g tt te chk vs e1.st.length ds [] (e1.wipe vs) fun acc e2 => fin acc e2 Kp
def finD (acc : List D) (e : En) (Kp : KE) : Prop := Kp (.val (.list acc)) e
def finO (acc : List D) (e : En) (Kp : KE) : Prop := Kp (.obj e.st.length) ⟨e.sl, e.st ++ [some (.l acc)]⟩
def VTs (X : Cx) (ifs : List Expr) (t : VTT) : Prop := PTs X ifs (liftT X.K t)
def vYes : VTT := fun e Kp => Kp true e
theorem PTs.imp {X : Cx} {ex : List Expr} {t t' : TT} (h : PTs X ex t) (f : ∀ σ H Q, t' σ H Q → t σ H Q) : PTs X ex t' := ⟨fun pins s σ H Q I q => h.run pins s σ H Q I (f σ H Q q)⟩
theorem vts_nil {X : Cx} : VTs X [] vYes := PTs.imp pts_nil fun σ H Q h => by
  obtain ⟨R, F, A, e, Kp, rep, k, fin⟩ := h
  exact fin true e F A H k (Le.refl F) (pfx_refl A) rep
theorem vts_one {X : Cx} {c : Expr} {t : VTT} (h : VT X c t) : VTs X [c] t := pts_one h
def FinL (K : PySem.W.Frag) (f : List D → En → KE → Prop) : Prop := ∀ {R F : Hp} {A : List Addr} {σ : L2.St} {H : Hp} {e : En} {p : Addr} {xs : List V} {acc : List D} {Kp : KE} {Q : VK}, Rep K (upd R p (.lst xs)) F A σ H e → R p = none → AtL K F acc xs → f acc e Kp → Fin K R F A σ Kp Q → Q (.ref p) H
theorem finD_ok {K : PySem.W.Frag} : FinL K finD := by
  intro R F A σ H e p xs acc Kp Q rep hR hx k fin
  obtain ⟨r2, l⟩ := rep.give hR
  exact (fin.tr l (pfx_refl A)).val r2 k (.lst upd_same (AtL.le l _ _ hx))
theorem lift_lc {K : PySem.W.Frag} {w : VTI} {g : VTG} {ws : List Nat} {tt : VTT} {te : VTE} {vs : List Nat} {f : List D → En → KE → Prop} (hf : FinL K f) (hw : ∀ i ∈ ws, i ∈ vs) (σ : L2.St) (H : Hp) (Q : VK) (h : liftE K (vLcK w g tt te vs f) σ H Q) :
    tLc (liftI K w) (liftG K ws g) (liftT K tt) (liftE K te) vs σ H Q := by
  obtain ⟨R, F, A, e, Kp, rep, k, fin⟩ := h
  refine ⟨R, F, A, e, _, rep, k, fun ds chk e1 F1 A1 H1 J k1 l1 p1 rep1 it => fun Dd hD => ?_⟩
  have hR : R Dd = none := rep1.keep.free hD
  refine ⟨fun i m H' => ∃ F' A' e' acc accV, m = ds.length - i ∧ i ≤ ds.length ∧ Le F1 F' ∧ A1 <+: A' ∧ Rep K (upd R Dd (.lst accV)) F' A' (wipe σ vs) H' e' ∧ Bare vs e' ∧ AtL K F' acc accV ∧ cl g tt te chk vs e1.st.length (ds.drop i) acc e' (fun acc e2 => f acc e2 Kp),
    ⟨_, F1, A1, e1.wipe vs, [], [], rfl, Nat.zero_le _, Le.refl _, pfx_refl _, (rep1.wiped vs).hold hD _, bare_wipe vs e1, .nil, k1⟩, ?_⟩
  rintro i m H' ⟨F', A', e', acc, accV, rfl, hi, l, p, rep', bare, hx, k⟩
  rcases Nat.lt_or_ge i ds.length with hlt | hge
  · right
    obtain ⟨d, hd⟩ : ∃ d, ds[i]? = some d := ⟨ds[i], by simp [hlt]⟩
    have hdr : ds.drop i = d :: ds.drop (i + 1) := by
      rw [List.drop_eq_getElem_cons hlt]
      rw [List.getElem?_eq_getElem hlt] at hd
      cases hd
      rfl
    rw [hdr] at k
    obtain ⟨kc, k⟩ := wth_ok k
    obtain ⟨g1, g2⟩ := it.go i d hd l p rep' kc
    refine ⟨g1, fun H2 => ∃ F' A' e' acc accV, ds.length - (i + 1) = ds.length - (i + 1) ∧ i + 1 ≤ ds.length ∧ Le F1 F' ∧ A1 <+: A' ∧ Rep K (upd R Dd (.lst accV)) F' A' (wipe σ vs) H2 e' ∧ Bare vs e' ∧ AtL K F' acc accV ∧ cl g tt te chk vs e1.st.length (ds.drop (i + 1)) acc e' (fun acc e2 => f acc e2 Kp),
      fun H2 q => ⟨ds.length - (i + 1), by omega, q⟩, fun x H3 y => ?_⟩
    obtain ⟨F3, l3, rep3, a3⟩ := g2 x H3 y
    refine ⟨_, F3, A', e', .val d, _, rep3, a3, k, fun e2 σ2 F2 A2 H2 k2 l2 p2 o2 rep2 => ⟨wipe_off o2 hw, _, F2, A2, e2, _, rep2, k2, fun b e3 F4 A4 H4 k4 l4 p4 rep4 => ?_⟩⟩
    have lf := ((l.trans l3).trans l2).trans l4
    have pf := (p.trans p2).trans p4
    cases b with
    | false =>
      have k4' : cl g tt te chk vs e1.st.length (ds.drop (i + 1)) acc ((e3.wipe vs).trim e1.st.length) (fun acc e2 => f acc e2 Kp) := k4
      obtain ⟨A5, p5, rep5⟩ := (rep4.wiped2 o2 hw).trim (A1 := A1) (n := e1.st.length) pf rep1.lenA.symm
      exact ⟨F4, A5, _, acc, accV, rfl, hlt, lf, p5, rep5, bare_trim (bare_wipe vs e3) _, AtL.le ((l3.trans l2).trans l4) _ _ hx, k4'⟩
    | true =>
      refine ⟨_, F4, A4, e3, _, rep4, k4, fun s e5 y5 F5 A5 H5 k5 l5 p5 rep5 a5 => ?_⟩
      obtain ⟨d', e6, F6, ⟨hl, k6⟩, rep6, l6, a6⟩ := rep5.asD a5 k5
      have lx := (((l3.trans l2).trans l4).trans l5).trans l6
      refine ⟨accV, rep6.keep _ _ upd_same, by rw [hx.len]; exact hl, ?_⟩
      obtain ⟨A7, p7, rep7⟩ := (rep6.wiped2 o2 hw).trim (A1 := A1) (n := e1.st.length) (pf.trans p5) rep1.lenA.symm
      exact ⟨F6, A7, _, acc ++ [d'], accV ++ [y5], rfl, hlt, l.trans lx, p7, rep7.rehold, bare_trim (bare_wipe vs e6) _, (AtL.le lx _ _ hx).app (AtL.one a6), k6⟩
  · left
    have e0 : i = ds.length := by omega
    subst e0
    rw [List.drop_length] at k
    obtain ⟨kc, k⟩ := wth_ok k
    refine ⟨it.stop l p rep' kc, ?_⟩
    exact hf (rep'.unwipe bare) hR hx k (fin.tr (l1.trans l) (p1.trans p))
section
variable {X : Cx} {elt tg iter : Expr} {ifs : List Expr} {scope : Scope} {own : List (Str × Nat)} {pos : Pos} {w : VTI} {g : VTG} {ws : List Nat} {tt : VTT} {te : VTE} {f : List D → En → KE → Prop}
theorem ve_lcK (hf : FinL X.K f) (hc : X.calm = true) (hN : X.N.Nodup) (hi : VI X tg iter w) (ok : BlkOk X.N X.env.scope scope own) (hw : ∀ i ∈ ws, i ∈ own.map (·.2))
    (hg : ∀ (s : Shared) (H : Hp) (C : Addr) (cl : List (Str × Addr)) (fp : List Addr), VG (X.blk s H scope (compEnvC scope cl C X.env) fp) tg ws g) (ht : ∀ (s : Shared) (H : Hp) (C : Addr) (cl : List (Str × Addr)) (fp : List Addr), VTs (X.blk s H scope (compEnvC scope cl C X.env) fp) ifs tt)
    (he : ∀ (s : Shared) (H : Hp) (C : Addr) (cl : List (Str × Addr)) (fp : List Addr), VE (X.blk s H scope (compEnvC scope cl C X.env) fp) elt te) (hs : ∀ x, foldedSetIterable iter X.env x = pure x := by intro _; rfl) :
    VE X (.ListComp elt [⟨tg, iter, ifs, 0⟩] scope pos) (vLcK w g tt te (own.map (·.2)) f) := PE.imp (pe_lc (g := liftG X.K ws g) (tt := liftT X.K tt) (te := liftE X.K te) hc hN hi ok hg ht he hs) fun σ H Q h => lift_lc hf hw σ H Q h
theorem vs_setLcK {i : Nat} {y : Str} {py spos : Pos} (hf : FinL X.K f) (hc : X.calm = true) (hN : X.N.Nodup) (hy : X.N[i]? = some y) (hyl : X.env.scope.names.lookup y = some .local)
    (hsw : swapsWith (.ListComp elt [⟨tg, iter, ifs, 0⟩] scope pos) (some (.Name y py)) spos.line X.env = pure true) (hi : VI X tg iter w) (ok : BlkOk X.N X.env.scope scope own) (hw : ∀ i ∈ ws, i ∈ own.map (·.2))
    (hg : ∀ (s : Shared) (H : Hp) (C : Addr) (cl : List (Str × Addr)) (fp : List Addr), VG (X.blk s H scope (compEnvC scope cl C X.env) fp) tg ws g) (ht : ∀ (s : Shared) (H : Hp) (C : Addr) (cl : List (Str × Addr)) (fp : List Addr), VTs (X.blk s H scope (compEnvC scope cl C X.env) fp) ifs tt)
    (he : ∀ (s : Shared) (H : Hp) (C : Addr) (cl : List (Str × Addr)) (fp : List Addr), VE (X.blk s H scope (compEnvC scope cl C X.env) fp) elt te) (hs : ∀ x, foldedSetIterable iter X.env x = pure x := by intro _; rfl) :
    VS X (.Assign [.Name y py] (.ListComp elt [⟨tg, iter, ifs, 0⟩] scope pos) spos) (vSet i (vLcK w g tt te (own.map (·.2)) f)) := PS.imp (ps_setLc (g := liftG X.K ws g) (tt := liftT X.K tt) (te := liftE X.K te) hc hN hy hyl hsw hi ok hg ht he hs) fun D σ H h => lift_set D σ H (fun Q q => lift_lc hf hw σ H Q q) h
end
end Vl
namespace Vl
open PySem L2 PySem.Spec PyProof.Rows
abbrev VSp := List Sl → List Ob → (Sl → List Ob → Prop) → Prop
def spV (K : PySem.W.Frag) (p : VSp) : Sp := fun vs H Q _ => ∃ R F A ss st Kp, Rep K R F A (vs.map some) H ⟨ss.map some, st.map some⟩ ∧ p ss st Kp ∧
  ∀ s st' v F' A' H', Kp s st' → Le F F' → A <+: A' → Rep K R F' A' [some v] H' ⟨[some s], st'.map some⟩ → Q v H'
def mob : Ob → Bool
  | .mo _ => true
  | .lk _ _ _ => true
  | .sq _ _ => true
  | .ins _ _ => true
  | .mt _ _ _ => true
  | _ => false
def takeS : Nat → List (Option Ob) → Option (List Ob)
  | 0, _ => some []
  | n + 1, some ob :: r => if mob ob = true then none else (takeS n r).map (ob :: ·)
  | _ + 1, _ => none
def ret (n : Nat) (s : Sl) (e : En) (Kp : Sl → List Ob → Prop) : Prop := match takeS n e.st with
  | none => False
  | some st' => match s with
    | .val d => Kp (.val d) st'
    | .kn ds => Kp (.kn ds) st'
    | .exc _ => False
    | .obj j => if j < n then False else match e.st[j]? with
      | some (some ob) => if mob ob = true then False else Kp (.obj n) (st' ++ [ob])
      | _ => False
theorem takeS_step {n : Nat} {ob : Ob} {r : List (Option Ob)} {cs : List Ob} (h : takeS (n + 1) (some ob :: r) = some cs) : mob ob = false ∧ ∃ c, takeS n r = some c ∧ cs = ob :: c := by
  have h' : (if mob ob = true then none else (takeS n r).map (ob :: ·)) = some cs := h
  split at h'
  · cases h'
  · rename_i q
    obtain ⟨c, hc, rfl⟩ := Option.map_eq_some_iff.mp h'
    exact ⟨by simpa using q, c, hc, rfl⟩
theorem takeS_len : ∀ {n : Nat} {st : List (Option Ob)} {cs : List Ob}, takeS n st = some cs → cs.length = n
  | 0, _, _, h => by
    cases h
    rfl
  | n + 1, some ds :: r, cs, h => by
    obtain ⟨_, c, hc, rfl⟩ := takeS_step h
    rw [List.length_cons, takeS_len hc]
  | _ + 1, [], _, h => by cases h
  | _ + 1, none :: _, _, h => by cases h
theorem takeS_at : ∀ {n : Nat} {st : List (Option Ob)} {cs : List Ob} {j : Nat} {ds : Ob}, takeS n st = some cs → cs[j]? = some ds → st[j]? = some (some ds) ∧ mob ds = false
  | 0, _, _, _, _, h, g => by
    cases h
    simp at g
  | n + 1, some c :: r, cs, j, ds, h, g => by
    obtain ⟨q, b, hb, rfl⟩ := takeS_step h
    cases j with
    | zero =>
      simp at g
      subst g
      exact ⟨rfl, q⟩
    | succ j => exact takeS_at (j := j) hb (by simpa using g)
  | _ + 1, [], _, _, _, h, _ => by cases h
  | _ + 1, none :: _, _, _, _, h, _ => by cases h
theorem ObAt.noM {K : PySem.W.Frag} {F : Hp} {A B : List Addr} {h : Option HO} : ∀ {ob : Ob}, mob ob = false → ObAt K F A h ob → ObAt K F B h ob
  | .l _, _, x => x
  | .m _, _, x => x
  | .mo _, n, _ => by cases n
  | .lk _ _ _, n, _ => by cases n
  | .sq _ _, n, _ => by cases n
  | .ins _ _, n, _ => by cases n
  | .mt _ _ _, n, _ => by cases n
section
variable {K : PySem.W.Frag} {R F : Hp} {A : List Addr} {σ : L2.St} {H : Hp} {e : En}
/-- a def ends: what it gives back, and the lists that were handed in -/
theorem ret_ok {F0 : Hp} {A0 : List Addr} {n : Nat} {s : Sl} {v : V} {Kp : Sl → List Ob → Prop} {Q : VK} (rep : Rep K R F A σ H e) (a : SlAt K F A v s) (hn : A0.length = n) (l : Le F0 F) (p : A0 <+: A) (k : ret n s e Kp)
    (fin : ∀ s st' v F' A' H', Kp s st' → Le F0 F' → A0 <+: A' → Rep K R F' A' [some v] H' ⟨[some s], st'.map some⟩ → Q v H') : Q v H := by
  unfold ret at k
  split at k
  · exact k.elim
  · rename_i st' hst
    have hl := takeS_len hst
    have hA0 : ∀ {j : Nat}, j < n → A0[j]? = A[j]? := fun {j} hj => by
      obtain ⟨t, rfl⟩ := p
      rw [List.getElem?_append_left (by omega)]
    have slo : ∀ (A' : List Addr) (t : Sl), SlAt K F A' v t → ∀ (i : Nat) (u : Sl), ([some t] : List (Option Sl))[i]? = some (some u) → ∃ w, ([some v] : L2.St)[i]? = some (some w) ∧ SlAt K F A' w u := fun A' t ha i u hu => by
      cases i with
      | zero =>
        have hu' : some (some t) = some (some u) := hu
        cases hu'
        exact ⟨v, rfl, ha⟩
      | succ i => simp at hu
    have sto : ∀ (j : Nat) (ds : Ob), (st'.map some)[j]? = some (some ds) → ∃ b, A0[j]? = some b ∧ F b = none ∧ ObAt K F A0 (H b) ds ∧ mob ds = false := fun j ds hj => by
      rw [List.getElem?_map] at hj
      obtain ⟨c, hc, ec⟩ := Option.map_eq_some_iff.mp hj
      cases ec
      obtain ⟨hs, hm⟩ := takeS_at hst hc
      obtain ⟨b, h1, h2, h3⟩ := rep.store j _ hs
      have hjn : j < n := by
        have := (List.getElem?_eq_some_iff.mp hc).1
        omega
      exact ⟨b, by rw [hA0 hjn]; exact h1, h2, h3.noM hm, hm⟩
    have mem : ∀ a ∈ A0, a ∈ A := fun a ha => p.subset ha
    have base : ∀ t, SlAt K F A0 v t → Rep K R F A0 [some v] H ⟨[some t], st'.map some⟩ := fun t ha =>
      ⟨rep.sub, rep.keep, fun a o z => ⟨(rep.apart a o z).1, fun hm => (rep.apart a o z).2 (mem a hm)⟩, rfl, by simp [hl, hn], p.sublist.nodup rep.nodup, fun a ha => rep.live a (mem a ha), slo A0 t ha, fun j ds hj => by
        obtain ⟨b, h1, h2, h3, _⟩ := sto j ds hj
        exact ⟨b, h1, h2, h3⟩, rep.tabs.sub mem⟩
    cases s with
    | val d => exact fin (.val d) st' v F A0 H k l (pfx_refl A0) (base _ a)
    | kn ds => exact fin (.kn ds) st' v F A0 H k l (pfx_refl A0) (base _ a)
    | exc d => exact k.elim
    | obj j =>
      replace k : (if j < n then False else match e.st[j]? with | some (some ob) => if mob ob = true then False else Kp (.obj n) (st' ++ [ob]) | _ => False) := k
      split at k
      · exact k.elim
      · rename_i hj
        split at k
        · rename_i ob hd
          split at k
          · exact k.elim
          rename_i hmo
          have hmo' : mob ob = false := by simpa using hmo
          obtain ⟨b, e1, e2⟩ := a
          obtain ⟨b', h1, h2, h3⟩ := rep.store j ob hd
          rw [e1] at h1
          cases h1
          have hb : b ∉ A0 := fun hm => by
            obtain ⟨i, hi, ei⟩ := List.getElem_of_mem hm
            have e3 : A[i]? = some b := by
              rw [← hA0 (by omega)]
              rw [List.getElem?_eq_getElem hi, ei]
            have := nodup_at rep.nodup e3 e1
            omega
          have hbA : b ∈ A := List.mem_of_getElem? e1
          refine fin (.obj n) (st' ++ [ob]) v F (A0 ++ [b]) H k l ⟨[b], rfl⟩ ⟨rep.sub, rep.keep, fun a o z => ⟨(rep.apart a o z).1, fun hm => ?_⟩, rfl, by simp [hl, hn], ?_, fun a ha => ?_, slo (A0 ++ [b]) (.obj n) ⟨b, ?_, e2⟩, fun i cs z => ?_, rep.tabs.sub fun a ha => by
            rcases List.mem_append.mp ha with z | z
            · exact mem a z
            · exact List.mem_singleton.mp z ▸ hbA⟩
          · rcases List.mem_append.mp hm with hm | hm
            · exact (rep.apart a o z).2 (mem a hm)
            · rw [List.mem_singleton.mp hm] at z
              exact (rep.apart b o z).2 hbA
          · rw [List.nodup_append]
            exact ⟨p.sublist.nodup rep.nodup, by simp, fun a ha c hc q => hb (by rw [List.mem_singleton.mp hc] at q; exact q ▸ ha)⟩
          · rcases List.mem_append.mp ha with hm | hm
            · exact rep.live a (mem a hm)
            · rw [List.mem_singleton.mp hm]
              exact rep.live b hbA
          · rw [List.getElem?_append_right (by omega), hn, Nat.sub_self] <;> rfl
          · have z' : ((st' ++ [ob]).map some)[i]? = some (some cs) := z
            rw [List.map_append] at z'
            by_cases hi : i < st'.length
            · rw [List.getElem?_append_left (by rw [List.length_map]; exact hi)] at z'
              obtain ⟨c, q1, q2, q3, q4⟩ := sto i cs z'
              exact ⟨c, by rw [List.getElem?_append_left (by omega)]; exact q1, q2, q3.noM q4⟩
            · rw [List.getElem?_append_right (by rw [List.length_map]; omega), List.length_map] at z'
              have hi0 : i - st'.length = 0 := by
                rcases Nat.eq_zero_or_pos (i - st'.length) with q | q
                · exact q
                · rw [List.getElem?_eq_none (by simp; omega)] at z'
                  cases z'
              rw [hi0] at z'
              simp at z'
              subst z'
              refine ⟨b, ?_, h2, h3.noM hmo'⟩
              rw [List.getElem?_append_right (by omega), show i - A0.length = 0 from by omega] <;> rfl
        · exact k.elim
end
/-- the names at a def's entry -/
def startV (n : Nat) (ss : List Sl) : List (Option Sl) := ss.map some ++ List.replicate (n - ss.length) none
section
variable {P : Program} {w : World} {K : PySem.W.Frag} {mg : Str → Option Value} {base : Heap}
theorem okV {x qual : Str} {st : Stmt} {f : Addr} {fd : FuncData} {N ps : List Str} {k : Nat} {p : VSp} (F : Fun K x qual st f fd) (S : FnScope N ps (defScope st)) (len : ∀ ss st Kp, p ss st Kp → ss.length = ps.length)
    (hbody : ∀ (cdv : Value) (A : Around) (outer : List Env) (s : Shared) (H : Hp) (E : XK), Room k (A.deeper (envOfC qual (defScope st) s.heap.objs.size f cdv)) →
      ∃ t, VSs (cxOf CX0 P w K mg base N qual (defScope st) f cdv A outer s H E).nox (defBody st) t ∧
        ∀ ss cs Kp, p ss cs Kp → t { nx := fun e => ret cs.length (.val .none) e Kp, rt := fun s e => ret cs.length s e Kp } ⟨startV N.length ss, cs.map some⟩) : FnOk P w K mg base CX0 (k + 1) f fd ps (spV K p) := by
  have lenV : ∀ vs H Q E, spV K p vs H Q E → vs.length = ps.length := fun vs H Q E h => by
    obtain ⟨R, F, A, ss, st, Kp, rep, hp, _⟩ := h
    have := rep.len
    simp at this
    rw [← this]
    exact len _ _ _ hp
  refine F.ok S lenV fun cdv A outer s H vs Q E hr h => ?_
  obtain ⟨t, ht, hb⟩ := hbody cdv A outer s H E hr
  obtain ⟨R, F0, A0, ss, cs, Kp, rep, hp, fin⟩ := h
  have hl := rep.len
  simp at hl
  refine ⟨_, ht, R, F0, A0, ⟨startV N.length ss, cs.map some⟩, { nx := fun e => ret cs.length (.val .none) e Kp, rt := fun s e => ret cs.length s e Kp }, ?_, hb ss cs Kp hp, ?_⟩
  · refine rep.weak ?_ fun i u hu => ?_
    · show (ss.map some ++ List.replicate (N.length - ss.length) none).length = (vs.map some ++ List.replicate (N.length - vs.length) none).length
      simp only [List.length_append, List.length_map, List.length_replicate, hl]
    · replace hu : (ss.map some ++ List.replicate (N.length - ss.length) none)[i]? = some (some u) := hu
      rcases Nat.lt_or_ge i (ss.map some).length with hi | hi
      · rw [List.getElem?_append_left hi] at hu
        obtain ⟨v, h1, h2⟩ := rep.slot i u hu
        refine ⟨v, ?_, h2⟩
        show (vs.map some ++ List.replicate (N.length - vs.length) none)[i]? = _
        rw [List.getElem?_append_left (by rw [List.length_map] at hi ⊢; omega)]
        exact h1
      · rw [List.getElem?_append_right hi] at hu
        have := List.mem_of_getElem? hu
        have := (List.mem_replicate.mp this).2
        cases this
  · have hn : A0.length = cs.length := by
      have := rep.lenA
      simp at this
      exact this.symm
    exact ⟨fun e' σ' F' A' H' k l p r => ret_ok r (s := .val .none) (v := .non) .non hn l p k fin, fun _ _ _ _ _ k => k.elim, fun _ _ _ _ _ k => k.elim, fun s e' v σ' F' A' H' k l p r a => ret_ok r a hn l p k fin, FinX.no⟩
end
def objs : List Sl → List Nat
  | [] => []
  | .obj j :: r => j :: objs r
  | .val _ :: r => objs r
  | .kn _ :: r => objs r
  | .exc _ :: r => objs r
def renum : Nat → List Sl → List Sl
  | _, [] => []
  | k, .obj _ :: r => .obj k :: renum (k + 1) r
  | k, .val d :: r => .val d :: renum k r
  | k, .kn ds :: r => .kn ds :: renum k r
  | k, .exc a :: r => .exc a :: renum k r
def uniq : List Nat → Bool
  | [] => true
  | j :: r => r.all (fun i => !(i == j)) && uniq r
def getS : List Nat → List (Option Ob) → Option (List Ob)
  | [], _ => some []
  | j :: r, st => match st[j]? with
    | some (some ob) => if mob ob = true then none else (getS r st).map (ob :: ·)
    | _ => none
def putS : List Nat → List Ob → List (Option Ob) → List (Option Ob)
  | j :: r, c :: cs, st => (putS r cs st).set j (some c)
  | _, _, st => st
/-- a call: what the callee may change are the lists of the store that are handed in -/
def opCallK (own : Ob → En → KE → Prop) (p : VSp) (ss : List Sl) (e : En) (Kp : KE) : Prop := match uniq (objs ss), getS (objs ss) e.st with
  | true, some cs => p (renum 0 ss) cs fun s cs' => if cs'.any mob = true then False else match s with
    | .val d => Kp (.val d) ⟨e.sl, putS (objs ss) cs' e.st⟩
    | .kn ds => Kp (.kn ds) ⟨e.sl, putS (objs ss) cs' e.st⟩
    | .exc _ => False
    | .obj j => if j < (objs ss).length then False else match cs'[j]? with
      | some ob => own ob ⟨e.sl, putS (objs ss) cs' e.st⟩ Kp
      | none => False
  | _, _ => False
theorem uniq_nodup : ∀ {js : List Nat}, uniq js = true → js.Nodup
  | [], _ => List.nodup_nil
  | j :: r, h => by
    have h' : (r.all (fun i => !(i == j)) && uniq r) = true := h
    rw [Bool.and_eq_true, List.all_eq_true] at h'
    rw [List.nodup_cons]
    refine ⟨fun hm => ?_, uniq_nodup h'.2⟩
    have := h'.1 j hm
    simp at this
theorem getS_at : ∀ {js : List Nat} {st : List (Option Ob)} {cs : List Ob}, getS js st = some cs → cs.length = js.length ∧ ∀ (k : Nat) (j : Nat), js[k]? = some j → ∃ ds, cs[k]? = some ds ∧ st[j]? = some (some ds) ∧ mob ds = false
  | [], _, _, h => by
    cases h
    exact ⟨rfl, fun k j hj => by simp at hj⟩
  | j :: r, st, cs, h => by
    unfold getS at h
    split at h
    · rename_i ds hd
      split at h
      · cases h
      rename_i hmo
      obtain ⟨c, hc, rfl⟩ := Option.map_eq_some_iff.mp h
      obtain ⟨h1, h2⟩ := getS_at hc
      refine ⟨by simp [h1], fun k i hi => ?_⟩
      cases k with
      | zero =>
        simp at hi
        subst hi
        exact ⟨ds, rfl, hd, by simpa using hmo⟩
      | succ k => exact h2 k i (by simpa using hi)
    · cases h
theorem putS_len : ∀ (js : List Nat) (cs : List Ob) (st : List (Option Ob)), (putS js cs st).length = st.length
  | [], _, _ => by simp [putS]
  | _ :: _, [], _ => by simp [putS]
  | j :: r, c :: cs, st => by
    show ((putS r cs st).set j (some c)).length = _
    rw [List.length_set, putS_len r cs st]
theorem putS_at : ∀ {js : List Nat} {cs : List Ob} {st : List (Option Ob)} {i : Nat} {o : Option Ob}, (putS js cs st)[i]? = some o → js.Nodup → (∃ (k : Nat) (c : Ob), js[k]? = some i ∧ cs[k]? = some c ∧ o = some c) ∨ ((∀ k : Nat, js[k]? = some i → cs[k]? = none) ∧ st[i]? = some o)
  | [], _, _, _, _, h, _ => .inr ⟨fun k hk => by simp at hk, by simpa [putS] using h⟩
  | _ :: _, [], _, _, _, h, _ => .inr ⟨fun k _ => by simp, by simpa [putS] using h⟩
  | j :: r, c :: cs, st, i, o, h, nd => by
    have h' : ((putS r cs st).set j (some c))[i]? = some o := h
    obtain ⟨n1, n2⟩ := List.nodup_cons.mp nd
    by_cases q : j = i
    · subst q
      have hl : j < (putS r cs st).length := by
        have := (List.getElem?_eq_some_iff.mp h').1
        simpa using this
      rw [List.getElem?_set_self hl] at h'
      cases h'
      exact .inl ⟨0, c, rfl, rfl, rfl⟩
    · rw [List.getElem?_set_ne q] at h'
      rcases putS_at h' n2 with ⟨k, c', h1, h2, h3⟩ | ⟨h1, h2⟩
      · exact .inl ⟨k + 1, c', by simpa using h1, by simpa using h2, h3⟩
      · refine .inr ⟨fun k hk => ?_, h2⟩
        cases k with
        | zero =>
          simp at hk
          exact absurd hk q
        | succ k =>
          have := h1 k (by simpa using hk)
          simpa using this
theorem renum_at {K : PySem.W.Frag} {F : Hp} {A Ap : List Addr} : ∀ {ss : List Sl} {vs : List V} {k : Nat}, SlAts K F A vs ss → (∀ m j, (objs ss)[m]? = some j → ∀ a, A[j]? = some a → Ap[k + m]? = some a) → SlAts K F Ap vs (renum k ss)
  | [], _, _, h, _ => by
    cases h
    exact .nil
  | .val d :: r, _, k, h, g => by
    cases h with
    | cons h1 h2 => exact .cons (s := .val d) h1 (renum_at h2 g)
  | .kn d :: r, _, k, h, g => by
    cases h with
    | cons h1 h2 => exact .cons (s := .kn d) h1 (renum_at h2 g)
  | .exc d :: r, _, k, h, g => by
    cases h with
    | cons h1 h2 => exact .cons (s := .exc d) h1 (renum_at h2 g)
  | .obj j :: r, _, k, h, g => by
    cases h with
    | cons h1 h2 =>
      obtain ⟨a, e1, e2⟩ := h1
      refine .cons (s := .obj k) ⟨a, g 0 j rfl a e1, e2⟩ (renum_at h2 fun m i hm b hb => ?_)
      have := g (m + 1) i (by simpa [objs] using hm) b hb
      rw [show k + 1 + m = k + (m + 1) from by omega]
      exact this
theorem slAts_get {K : PySem.W.Frag} {F : Hp} {A : List Addr} {vs : List V} {ss : List Sl} (h : SlAts K F A vs ss) : ∀ {i : Nat} {s : Sl}, ss[i]? = some s → ∃ v, vs[i]? = some v ∧ SlAt K F A v s := by
  induction h with
  | nil =>
    intro i s hs
    simp at hs
  | cons h1 h2 ih =>
    intro i s hs
    cases i with
    | zero =>
      simp at hs
      subst hs
      exact ⟨_, rfl, h1⟩
    | succ i => exact ih (by simpa using hs)
/-- how a new list of the callee's is taken -/
def ownO (ob : Ob) (e : En) (Kp : KE) : Prop := Kp (.obj e.st.length) ⟨e.sl, e.st ++ [some ob]⟩
def ownD (ob : Ob) (e : En) (Kp : KE) : Prop := match ob with
  | .l ds => Kp (.val (.list ds)) e
  | _ => False
def FinW (K : PySem.W.Frag) (own : Ob → En → KE → Prop) : Prop := ∀ {R F : Hp} {A : List Addr} {σ : L2.St} {H : Hp} {e : En} {b : Addr} {o : HO} {ob : Ob} {Kp : KE} {Q : VK}, Rep K R F A σ H e → F b = none → R b = none → b ∉ A → H b = some o → ObAt K F A (some o) ob → mob ob = false → own ob e Kp → Fin K R F A σ Kp Q → Q (.ref b) H
theorem ObAt.noTbl {K : PySem.W.Frag} {F : Hp} {A : List Addr} {o : HO} {ob : Ob} (h : ObAt K F A (Option.some o) ob) (ps : Array Value) : o ≠ .tbl ps := fun e => by
  subst e
  cases ob with
  | sq t ss =>
    obtain ⟨xs, e, _⟩ := h
    cases t <;> cases e
  | l _ => obtain ⟨_, e, _⟩ := h; cases e
  | m _ => obtain ⟨_, e, _⟩ := h; cases e
  | mo _ => obtain ⟨_, e, _⟩ := h; cases e
  | lk _ _ _ => obtain ⟨e, _⟩ := h; cases e
  | ins _ _ => obtain ⟨_, _, _, e, _⟩ := h; cases e
  | mt _ _ _ => obtain ⟨_, _, e, _⟩ := h; cases e
theorem Rep.adopt {K : PySem.W.Frag} {R F : Hp} {A : List Addr} {σ : L2.St} {H : Hp} {e : En} (r : Rep K R F A σ H e) {b : Addr} {o : HO} (hF : F b = none) (hR : R b = none) (hA : b ∉ A) (hH : H b = some o) (no : ∀ ps, o ≠ .tbl ps) : Rep K (upd R b o) F A σ H e :=
  ⟨r.sub, fun c u z => by
    by_cases q : c = b
    · subst q
      rw [upd_same] at z
      cases z
      exact hH
    · rw [upd_ne q] at z
      exact r.keep _ _ z, fun c u z => by
    by_cases q : c = b
    · subst q
      exact ⟨hF, hA⟩
    · rw [upd_ne q] at z
      exact r.apart c u z, r.len, r.lenA, r.nodup, r.live, r.slot, r.store, r.tabs.adopt hH no⟩
theorem finW_O {K : PySem.W.Frag} : FinW K ownO := by
  intro R F A σ H e b o ob Kp Q rep hF hR hA hH hx hm k fin
  obtain ⟨r2, l⟩ := (rep.adopt hF hR hA hH hx.noTbl).giveOb hR (hx.noM hm)
  refine fin (.obj e.st.length) _ (.ref b) F _ H k (Le.refl F) l r2 ⟨b, ?_, rfl⟩
  rw [rep.lenA, List.getElem?_append_right (Nat.le_refl _), Nat.sub_self] <;> rfl
theorem finW_D {K : PySem.W.Frag} : FinW K ownD := by
  intro R F A σ H e b o ob Kp Q rep hF hR hA hH hx hm k fin
  cases ob with
  | l ds =>
    obtain ⟨xs, ex, hxs⟩ := hx
    cases ex
    exact finD_ok (rep.adopt hF hR hA hH fun _ z => by cases z) hR hxs k fin
  | m _ => exact False.elim k
  | mo _ => exact False.elim k
  | lk _ _ _ => exact False.elim k
  | sq _ _ => exact False.elim k
  | ins _ _ => exact False.elim k
  | mt _ _ _ => exact False.elim k
open Classical in
theorem p_call {K : PySem.W.Frag} {p : VSp} {own : Ob → En → KE → Prop} (hw : FinW K own) {E : XK} : PrimN K (fun vs H Q => spV K p (vs ++ []) H Q E) (opCallK own p) := by
  intro R F A σ H e vs ss Kp Q rep ats ho fin
  rw [List.append_nil]
  unfold opCallK at ho
  split at ho
  · rename_i cs hu hg
    have nd := uniq_nodup hu
    obtain ⟨gl, ga⟩ := getS_at hg
    -- the addresses of what is handed in
    have hA : ∀ (k j : Nat), (objs ss)[k]? = some j → ∃ a ds, A[j]? = some a ∧ cs[k]? = some ds ∧ F a = none ∧ ObAt K F A (H a) ds ∧ mob ds = false := fun k j hj => by
      obtain ⟨ds, h1, h2, hm⟩ := ga k j hj
      obtain ⟨a, q1, q2, q3⟩ := rep.store j ds h2
      exact ⟨a, ds, q1, h1, q2, q3, hm⟩
    let Ap : List Addr := (objs ss).map fun j => (A[j]?).getD 0
    have hAp : ∀ (k j : Nat) (a : Addr), (objs ss)[k]? = some j → A[j]? = some a → Ap[k]? = some a := fun k j a h1 h2 => by
      show ((objs ss).map fun j => (A[j]?).getD 0)[k]? = _
      rw [List.getElem?_map, h1]
      simp [h2]
    have hAp' : ∀ (k : Nat) (a : Addr), Ap[k]? = some a → ∃ j, (objs ss)[k]? = some j ∧ A[j]? = some a := fun k a h => by
      have h' : ((objs ss).map fun j => (A[j]?).getD 0)[k]? = some a := h
      rw [List.getElem?_map] at h'
      obtain ⟨j, h1, h2⟩ := Option.map_eq_some_iff.mp h'
      obtain ⟨b, _, q1, _⟩ := hA k j h1
      rw [q1] at h2
      simp at h2
      exact ⟨j, h1, by rw [q1, h2]⟩
    have hApl : Ap.length = (objs ss).length := List.length_map _
    have hsub : ∀ a ∈ Ap, a ∈ A := fun a ha => by
      obtain ⟨k, hk⟩ := List.getElem?_of_mem ha
      obtain ⟨j, _, h2⟩ := hAp' k a hk
      exact List.mem_of_getElem? h2
    have hApn : Ap.Nodup := by
      show ((objs ss).map fun j => (A[j]?).getD 0).Nodup
      refine List.pairwise_map.mpr (List.Pairwise.imp_of_mem (fun {i j} hi hj hne q => ?_) nd)
      obtain ⟨ki, hki⟩ := List.getElem?_of_mem hi
      obtain ⟨kj, hkj⟩ := List.getElem?_of_mem hj
      obtain ⟨a, _, q1, _⟩ := hA ki i hki
      obtain ⟨b, _, q2, _⟩ := hA kj j hkj
      rw [q1, q2] at q
      have q' : a = b := q
      subst q'
      exact hne (nodup_at rep.nodup q1 q2)
    let Rc : Hp := fun a => if (F a).isSome = true ∨ a ∈ Ap ∨ TbK K a then none else H a
    have hRc : ∀ {a : Addr} {o : HO}, Rc a = some o → F a = none ∧ a ∉ Ap ∧ H a = some o := fun {a o} h => by
      have h' : (if (F a).isSome = true ∨ a ∈ Ap ∨ TbK K a then none else H a) = some o := h
      split at h'
      · cases h'
      · rename_i q
        refine ⟨?_, fun z => q (.inr (.inl z)), h'⟩
        cases hf : F a with
        | none => rfl
        | some u => exact absurd (.inl (by simp [hf])) q
    have hRc' : ∀ {a : Addr} {o : HO}, F a = none → a ∉ Ap → ¬ TbK K a → H a = some o → Rc a = some o := fun {a o} h1 h2 h4 h3 => by
      show (if (F a).isSome = true ∨ a ∈ Ap ∨ TbK K a then none else H a) = some o
      rw [if_neg]
      · exact h3
      · rintro (z | z | z)
        · rw [h1] at z
          cases z
        · exact h2 z
        · exact h4 z
    have noA : ∀ {a : Addr}, a ∈ A → ¬ TbK K a := fun {a} ha z => (rep.tabs.of a z).2.2.2 ha
    have noR : ∀ {a : Addr} {o : HO}, R a = some o → ¬ TbK K a := fun {a o} h z => by
      rw [(rep.tabs.of a z).2.2.1] at h
      cases h
    have tabc : Tbs K Rc F H Ap := ⟨fun P hP => by
      obtain ⟨h1, h2, h3, h4⟩ := rep.tabs.of P hP
      refine ⟨h1, h2, ?_, fun z => h4 (hsub P z)⟩
      show (if (F P).isSome = true ∨ P ∈ Ap ∨ TbK K P then none else H P) = none
      rw [if_pos (.inr (.inr hP))]⟩
    have ren := renum_at (Ap := Ap) (k := 0) ats (fun m j hm a ha => by rw [Nat.zero_add]; exact hAp m j a hm ha)
    have repc : Rep K Rc F Ap (vs.map some) H ⟨(renum 0 ss).map some, cs.map some⟩ := by
      refine ⟨rep.sub, fun a o z => (hRc z).2.2, fun a o z => ⟨(hRc z).1, (hRc z).2.1⟩, ?_, ?_, hApn, fun a ha => rep.live a (hsub a ha), fun i s z => ?_, fun j ds z => ?_, tabc⟩
      · simp [ren.len]
      · simp [gl, hApl]
      · have z' : ((renum 0 ss).map some)[i]? = some (some s) := z
        rw [List.getElem?_map] at z'
        obtain ⟨t, ht, hs⟩ := Option.map_eq_some_iff.mp z'
        cases hs
        obtain ⟨v, h1, h2⟩ := slAts_get ren ht
        exact ⟨v, by rw [List.getElem?_map, h1] <;> rfl, h2⟩
      · have z' : (cs.map some)[j]? = some (some ds) := z
        rw [List.getElem?_map] at z'
        obtain ⟨t, ht, hs⟩ := Option.map_eq_some_iff.mp z'
        cases hs
        have hj : j < (objs ss).length := by
          have := (List.getElem?_eq_some_iff.mp ht).1
          omega
        obtain ⟨i, hi⟩ : ∃ i, (objs ss)[j]? = some i := ⟨(objs ss)[j], by simp [hj]⟩
        obtain ⟨a, ds', q1, q2, q3, q4, q5⟩ := hA j i hi
        rw [ht] at q2
        cases q2
        exact ⟨a, hAp j i a hi q1, q3, q4.noM q5⟩
    refine ⟨Rc, F, Ap, renum 0 ss, cs, _, repc, ho, fun s cs' v F' A' H' k l p rep' => ?_⟩
    split at k
    · exact k.elim
    rename_i hall
    have mobs : ∀ (i : Nat) (ob : Ob), cs'[i]? = some ob → mob ob = false := fun i ob h => by
      cases q : mob ob with
      | false => rfl
      | true => exact absurd (List.any_eq_true.mpr ⟨ob, List.mem_of_getElem? h, q⟩) hall
    have hR : ∀ {a : Addr} {o : HO}, R a = some o → Rc a = some o := fun {a o} z => hRc' (rep.apart a o z).1 (fun hm => (rep.apart a o z).2 (hsub a hm)) (noR z) (rep.keep a o z)
    have hA' : ∀ {k : Nat}, k < Ap.length → A'[k]? = Ap[k]? := fun {k} hk => by
      obtain ⟨t, rfl⟩ := p
      rw [List.getElem?_append_left hk]
    have hApA' : ∀ a ∈ Ap, a ∈ A' := fun a ha => p.subset ha
    have lc : cs'.length = A'.length := by
      have := rep'.lenA
      simpa using this
    -- the caller's state behind the call
    have back : Rep K R F' A σ H' ⟨e.sl, putS (objs ss) cs' e.st⟩ := by
      refine ⟨rep'.sub, fun a o z => rep'.keep a o (hR z), fun a o z => ⟨(rep'.apart a o (hR z)).1, (rep.apart a o z).2⟩, rep.len, by rw [putS_len]; exact rep.lenA, rep.nodup, fun a ha => ?_, fun i t z => ?_, fun j ds z => ?_, ⟨fun P hP => ⟨(rep'.tabs.of P hP).1, (rep'.tabs.of P hP).2.1, (rep.tabs.of P hP).2.2⟩⟩⟩
      · obtain ⟨o, ho⟩ := rep.live a ha
        cases hf : F a with
        | some u => exact ⟨u, rep'.sub _ _ (l _ _ hf)⟩
        | none =>
          by_cases hm : a ∈ Ap
          · exact rep'.live a (hApA' a hm)
          · exact ⟨o, rep'.keep _ _ (hRc' hf hm (noA ha) ho)⟩
      · obtain ⟨u, h1, h2⟩ := rep.slot i t z
        exact ⟨u, h1, h2.le l (pfx_refl A)⟩
      · rcases putS_at z nd with ⟨m, c, h1, h2, h3⟩ | ⟨h1, h2⟩
        · cases h3
          obtain ⟨a, ds', q1, q2, q3, q4, q5⟩ := hA m j h1
          obtain ⟨b, r1, r2, r3⟩ := rep'.store m ds (by rw [List.getElem?_map, h2] <;> rfl)
          have hm : m < Ap.length := by
            rw [hApl]
            exact (List.getElem?_eq_some_iff.mp h1).1
          rw [hA' hm, hAp m j a h1 q1] at r1
          cases r1
          exact ⟨a, q1, r2, r3.noM (mobs m ds h2)⟩
        · obtain ⟨a, q1, q2, q3⟩ := rep.store j ds h2
          have na : a ∉ Ap := fun hm => by
            obtain ⟨m, hm⟩ := List.getElem?_of_mem hm
            obtain ⟨j', r1, r2⟩ := hAp' m a hm
            have := nodup_at rep.nodup r2 q1
            subst this
            have hml : m < Ap.length := (List.getElem?_eq_some_iff.mp hm).1
            have := h1 m r1
            have h5 : Ap.length ≤ A'.length := p.length_le
            rw [List.getElem?_eq_none_iff] at this
            omega
          obtain ⟨o, ho⟩ := q3.some
          have zc := hRc' q2 na (noA (List.mem_of_getElem? q1)) ho
          exact ⟨a, q1, (rep'.apart a _ zc).1, q3.le l (pfx_refl A) fun u e => by
            rw [ho] at e
            cases e
            exact rep'.keep _ _ zc⟩
    have fin' := fin.tr l (pfx_refl A)
    obtain ⟨v', hv', av⟩ := rep'.slot 0 s rfl
    have ev : some v = some v' := by simpa using hv'
    cases ev
    cases s with
    | val d => exact fin'.done back (s := .val d) k av
    | kn ds => exact fin'.done back (s := .kn ds) k av
    | exc d => exact k.elim
    | obj j =>
      replace k : (if j < (objs ss).length then False else match cs'[j]? with | some ds => own ds ⟨e.sl, putS (objs ss) cs' e.st⟩ Kp | none => False) := k
      split at k
      · exact k.elim
      · rename_i hj
        split at k
        · rename_i ds hd
          obtain ⟨b, e1, rfl⟩ := av
          obtain ⟨b', r1, r2, r3⟩ := rep'.store j ds (by rw [List.getElem?_map, hd] <;> rfl)
          rw [e1] at r1
          cases r1
          obtain ⟨o, ho⟩ := r3.some
          have nb : b ∉ Ap := fun hm => by
            obtain ⟨m, hm⟩ := List.getElem?_of_mem hm
            have hml : m < Ap.length := (List.getElem?_eq_some_iff.mp hm).1
            rw [← hA' hml] at hm
            have := nodup_at rep'.nodup hm e1
            omega
          have hbF : F b = none := by
            cases hf : F b with
            | none => rfl
            | some u =>
              rw [l _ _ hf] at r2
              cases r2
          have hH : H b = none := by
            cases hh : H b with
            | none => rfl
            | some u => exact absurd (List.mem_of_getElem? e1) (rep'.apart b u (hRc' hbF nb (fun z => (rep'.tabs.of b z).2.2.2 (List.mem_of_getElem? e1)) hh)).2
          exact hw back r2 (rep.keep.free hH) (fun hm => by
            obtain ⟨u, hu⟩ := rep.live b hm
            rw [hH] at hu
            cases hu) ho (by rw [← ho]; exact r3.noM (mobs j ds hd)) (mobs j ds hd) k fin'
        · exact k.elim
  · exact ho.elim
section
variable {X : Cx} {f : Addr} {fd : FuncData} {ps : List Str} {k : Nat} {p : VSp} {x : Str} {pp pos : Pos} {ex : Expr} {es : List Expr} {t : VTA}
theorem ve_callK {own : Ob → En → KE → Prop} (hw : FinW X.K own) (G : FnOk X.prog X.w X.K X.mg X.base CX0 k f fd ps (spV X.K p)) (hr : Room k X.A) (hg : Gl X x) (hm : X.mg x = some (.ref f)) (hk : PySem.W.keepIn X.K (.ref f) = true) (hb : Binds X.K fd ps [])
    (ha : VA X (ex :: es) t) (hdb : (x == ("__debug__" : Str)) = false := by decide) (he : starEach (ex :: es) X.env = (false, eval ex X.env) :: starEach es X.env := by rfl) (hpl : (backTo pos (starEach es X.env)).any (·.1) = false := by rfl) :
    VE X (.Call (.Name x pp) (ex :: es) [] pos) (vN (opCallK own p) t) := PE.imp (pe_call G hr hg hm hk hb .nil pass0 ha hdb he hpl) (liftN (p_call hw))
end
end Vl
namespace Vl
open PySem L2 PySem.Spec PyProof.Rows
def truOk : D → Prop
  | .str x => x.length ≤ sizeLine
  | .dict _ => False
  | _ => True
def truB : D → Bool
  | .none => false
  | .bool b => b
  | .int i => i != 0
  | .str s => (s.length : Int) != 0
  | .list ds => !ds.isEmpty
  | .tuple ds => !ds.isEmpty
  | .dict _ => false
theorem tru_at {K : PySem.W.Frag} {R F : Hp} {A : List Addr} {σ : L2.St} {H : Hp} {e : En} {X : Cx} {x : V} {s : Sl} {d : D} (rep : Rep X.K R F A σ H e) (a : SlAt X.K F A x s) (h : pk s e = some d) (ok : truOk d) : TruV X.K x H (truB d) := by
  have p := rep.pk a h
  cases d with
  | none =>
    rw [p.none]
    rfl
  | bool b =>
    rw [p.bool]
    rfl
  | int i =>
    rw [p.int]
    rfl
  | str z =>
    rw [p.str]
    exact ⟨ok, rfl⟩
  | list ds =>
    obtain ⟨q, xs, rfl, h1, h2⟩ := p
    exact .inl ⟨xs, h1, empty_at (X := X) h2⟩
  | tuple ds =>
    obtain ⟨q, xs, rfl, h1, h2⟩ := p.tup
    exact .inr (.inl ⟨xs, sqT_le rep.sub h1, empty_at (X := X) h2⟩)
  | dict _ => exact ok.elim
def vOrG (ta tb : VTE) : VTE := fun e Kp => ta e fun s e1 => match pk s e1 with
  | some d => truOk d ∧ if truB d = true then Kp s e1 else tb e1 Kp
  | none => False
def opNotG (s : Sl) (e : En) (Kp : KE) : Prop := match pk s e with
  | some d => truOk d ∧ Kp (.val (.bool (!truB d))) e
  | none => False
section
variable {X : Cx} {a b c : Expr} {ta tb tc : VTE} {pos : Pos}
theorem ve_orG {rest : List Expr} (ha : VE X a ta) (hb : VE X (.BoolOp .Or (b :: rest) pos) tb) : VE X (.BoolOp .Or (a :: b :: rest) pos) (vOrG ta tb) := PE.imp (pe_orT ha hb) fun σ H Q q => by
  obtain ⟨R, F, A, e, Kp, rep, ht, fin⟩ := q
  refine ⟨R, F, A, e, _, rep, ht, fun s1 e1 x F1 A1 H1 k1 f1 p1 rep1 at1 => ?_⟩
  split at k1
  · rename_i d hd
    refine ⟨truB d, tru_at (K := X.K) rep1 at1 hd k1.1, ?_⟩
    have k2 := k1.2
    cases q : truB d with
    | true =>
      rw [q] at k2
      exact (fin.tr f1 p1).done rep1 k2 at1
    | false =>
      rw [q] at k2
      exact ⟨R, F1, A1, e1, Kp, rep1, k2, fin.tr f1 p1⟩
  · exact k1.elim
def vChain (o1 o2 : Sl → Sl → En → KE → Prop) (ta tb tc : VTE) : VTE := fun e Kp => ta e fun s1 e1 => tb e1 fun s2 e2 => o1 s1 s2 e2 fun s e3 => match pk s e3 with
  | some (.bool k) => if k = true then tc e3 fun s3 e4 => o2 s2 s3 e4 Kp else Kp (.val (.bool false)) e3
  | _ => False
theorem vt_lt (ha : VE X a ta) (hb : VE X b tb) (hm : behindInMarks .Lt b = false := by exact nomark _) : VT X (.Compare a [.Lt] [b] pos) (vTest (v2 opLt ta tb)) := vt_cmp p_lt (op_lt.or op_lt_str) ha hb hm
theorem vt_gt (ha : VE X a ta) (hb : VE X b tb) (hm : behindInMarks .Gt b = false := by exact nomark _) : VT X (.Compare a [.Gt] [b] pos) (vTest (v2 opGt ta tb)) := vt_cmp (p_i0 (g := gGt) fun _ _ _ => .bl _) op_gt ha hb hm
theorem vt_ge (ha : VE X a ta) (hb : VE X b tb) (hm : behindInMarks .GtE b = false := by exact nomark _) : VT X (.Compare a [.GtE] [b] pos) (vTest (v2 opGe ta tb)) := vt_cmp (p_i0 (g := gGe) fun _ _ _ => .bl _) op_ge ha hb hm
def flatD : D → Bool
  | .none => true
  | .bool _ => true
  | .int _ => true
  | .str _ => true
  | _ => false
theorem flat_at {K : PySem.W.Frag} {F : Hp} {v : V} : ∀ {d : D}, flatD d = true → At K F d v → v = sV d ∧ flatV v = true
  | .none, _, h => by
    cases h
    exact ⟨rfl, rfl⟩
  | .bool _, _, h => by
    cases h
    exact ⟨rfl, rfl⟩
  | .int _, _, h => by
    cases h
    exact ⟨rfl, rfl⟩
  | .str _, _, h => by
    cases h
    exact ⟨rfl, rfl⟩
theorem flat_eqv {c d : D} (h1 : flatD c = true) (h2 : flatD d = true) : eqV (sV c) (sV d) = PyData.eqv c d := by
  cases c <;> cases d <;> first | rfl | simp_all [flatD] | (simp only [sV, eqV, PyData.eqv])
theorem inV_at {K : PySem.W.Frag} {F : Hp} {d : D} {v : V} (hd : flatD d = true) (a : At K F d v) : ∀ {ds : List D} {vs : List V}, ds.all flatD = true → AtL K F ds vs → inV v vs = (ds.any fun z => PyData.eqv z d) ∧ vs.all flatV = true
  | [], _, _, h => by
    cases h
    exact ⟨rfl, rfl⟩
  | c :: ds, _, f, h => by
    cases h with
    | cons h1 h2 =>
      rw [List.all_cons, Bool.and_eq_true] at f
      obtain ⟨e1, e2⟩ := inV_at hd a f.2 h2
      obtain ⟨g1, g2⟩ := flat_at f.1 h1
      obtain ⟨g3, g4⟩ := flat_at hd a
      refine ⟨?_, by rw [List.all_cons, g2, e2] <;> rfl⟩
      show (eqV _ v || inV v _) = (PyData.eqv c d || _)
      rw [e1, g1, g3, flat_eqv f.1 hd]
def opIn3 (neg : Bool) (s1 s2 : Sl) (e : En) (Kp : KE) : Prop := match pk s1 e, pk s2 e with
  | some d, some (.tuple ds) => flatD d = true ∧ ds.all flatD = true ∧ Kp (.val (.bool (if neg then !ds.any (fun z => PyData.eqv z d) else ds.any fun z => PyData.eqv z d))) e
  | _, _ => opIn neg s1 s2 e Kp
def rIn3 (K : PySem.W.Frag) : R2 := fun x y H Q => rIn K false x y H Q ∨ rIn2 K x y H Q
def rNotIn3 (K : PySem.W.Frag) : R2 := fun x y H Q => rIn K true x y H Q ∨ rNotIn2 K x y H Q
theorem p_in3 {K : PySem.W.Frag} : Prim2 K (rIn3 K) (opIn3 false) := by
  intro R F A σ H e x y s1 s2 Kp Q rep a1 a2 ho fin
  unfold opIn3 at ho
  split at ho
  · rename_i d ds h1 h2
    obtain ⟨q, xs, rfl, q1, q2⟩ := (rep.pk a2 h2).tup
    have pd := rep.pk a1 h1
    have ad : At K F d x := by
      cases d <;> first | exact pd | exact absurd ho.1 (by simp [flatD])
    obtain ⟨g1, g2⟩ := inV_at ho.1 ad ho.2.1 q2
    refine .inl ⟨q, xs, rfl, .inr (sqT_le rep.sub q1), (flat_at ho.1 ad).2, g2, ?_⟩
    rw [g1]
    exact fin.val rep ho.2.2 (.bl _)
  · exact .inr (p_in rep a1 a2 ho fin)
theorem p_notIn3 {K : PySem.W.Frag} : Prim2 K (rNotIn3 K) (opIn3 true) := by
  intro R F A σ H e x y s1 s2 Kp Q rep a1 a2 ho fin
  unfold opIn3 at ho
  split at ho
  · rename_i d ds h1 h2
    obtain ⟨q, xs, rfl, q1, q2⟩ := (rep.pk a2 h2).tup
    have pd := rep.pk a1 h1
    have ad : At K F d x := by
      cases d <;> first | exact pd | exact absurd ho.1 (by simp [flatD])
    obtain ⟨g1, g2⟩ := inV_at ho.1 ad ho.2.1 q2
    refine .inl ⟨q, xs, rfl, .inr (sqT_le rep.sub q1), (flat_at ho.1 ad).2, g2, ?_⟩
    rw [g1]
    exact fin.val rep ho.2.2 (.bl _)
  · exact .inr (p_notIn rep a1 a2 ho fin)
theorem op_in3 (hu : X.A.units + 190 < cLine) : OpR X (compareOp .In) (rIn3 X.K) := op_in_seq.or (op_in2 hu)
theorem op_notIn3 (hu : X.A.units + 190 < cLine) : OpR X (compareOp .NotIn) (rNotIn3 X.K) := op_notIn_seq.or (op_notIn2 hu)
def opRev (s : Sl) (e : En) (Kp : KE) : Prop := match pk s e with
  | some (.list ds) => Kp (.val (.list ds.reverse)) e
  | _ => False
theorem AtL.rev {K : PySem.W.Frag} {F : Hp} {ds : List D} {vs : List V} (h : AtL K F ds vs) : AtL K F ds.reverse vs.reverse := by
  induction ds generalizing vs with
  | nil =>
    cases h
    exact .nil
  | cons d ds ih =>
    cases h with
    | cons h1 h2 =>
      rw [List.reverse_cons, List.reverse_cons]
      exact (ih h2).app (AtL.one h1)
theorem ve_rev {k : Nat} {p1 p2 p3 : Pos} (ha : VE X a ta) : VE X (.Subscript a (.Slice none none (some (.UnaryOp .USub (.Constant (.int 1) k p1) p2)) p3) pos) (v1 opRev ta) := PE.imp (pe_revL ha) (lift1 fun {R F A σ H e x s Kp Q} rep a1 ho fin => by
  unfold opRev at ho
  split at ho
  · rename_i ds h1
    obtain ⟨q, xs, rfl, q1, q2⟩ := rep.pk a1 h1
    exact ⟨q, xs, rfl, q1, fun p hp => fin.newL rep hp ho q2.rev⟩
  · exact ho.elim)
def reps (k : Nat) (ds : List D) : List D := (List.replicate k ds).flatten
theorem AtL.reps {K : PySem.W.Frag} {F : Hp} {ds : List D} {vs : List V} (h : AtL K F ds vs) : ∀ k : Nat, AtL K F (Vl.reps k ds) (List.replicate k vs).flatten
  | 0 => .nil
  | k + 1 => by
    show AtL K F (List.replicate (k + 1) ds).flatten _
    rw [List.replicate_succ, List.replicate_succ, List.flatten_cons, List.flatten_cons]
    exact h.app (AtL.reps h k)
def opMul2 (s1 s2 : Sl) (e : En) (Kp : KE) : Prop := match pkm s1 e, pk s2 e with
  | some (.int i), some (.int j) => CMul i j ∧ Kp (.val (.int (i * j))) e
  | some (.list ds), some (.int k) => -(2 ^ 63) ≤ k ∧ k < 2 ^ 63 ∧ ds.length * k.toNat ≤ sizeLine ∧ Kp (.val (.list (reps k.toNat ds))) e
  | _, _ => False
theorem p_mul2 {K : PySem.W.Frag} : Prim2 K (fun x y H Q => rI CMul (fun i j => .int (i * j)) x y H Q ∨ rRep x y H Q) opMul2 := by
  intro R F A σ H e x y s1 s2 Kp Q rep a1 a2 ho fin
  unfold opMul2 at ho
  split at ho
  · rename_i i j h1 h2
    exact .inl ⟨i, j, (rep.pkm a1 h1).int, (rep.pk a2 h2).int, ho.1, fin.val rep ho.2 (.int _)⟩
  · rename_i ds k h1 h2
    obtain ⟨l, xs, rfl, q1, q2⟩ := rep.pkm a1 h1
    exact .inr ⟨l, k, xs, rfl, (rep.pk a2 h2).int, q1, ho.1, ho.2.1, by rw [q2.len]; exact ho.2.2.1, fun p hp => fin.newL rep hp ho.2.2.2 (q2.reps _)⟩
  · exact ho.elim
theorem ve_mul2 (ha : VE X a ta) (hb : VE X b tb) : VE X (.BinOp a .Mult b pos) (v2 opMul2 ta tb) := ve_op p_mul2 (op_mul.or op_rep) ha hb
def tyD : D → String
  | .none => "NoneType"
  | .bool _ => "bool"
  | .int _ => "int"
  | .str _ => "str"
  | .list _ => "list"
  | .tuple _ => "tuple"
  | .dict [] => "dict"
  | .dict (_ :: _) => "#rec"
theorem kit_rec {T : String} (h : T ≠ "#rec") : kitB "#rec" T = none := by
  unfold kitB
  rw [if_neg (by
    intro z
    have z' := eq_of_beq z
    exact h (Value.type.inj z').symm)]
  split
  · rw [show PySem.fastBuiltinMro "#rec" = none from by decide +kernel]
    rfl
  · rfl
theorem ty_at {K : PySem.W.Frag} {R F : Hp} {A : List Addr} {σ : L2.St} {H : Hp} {e : En} {x : V} {s : Sl} {d : D} (rep : Rep K R F A σ H e) (a : SlAt K F A x s) (h : pk s e = some d) (hr : tyD d ≠ "#rec") : TyX K H x (.type (tyD d)) := by
  have p := rep.pk a h
  cases d with
  | none =>
    rw [p.none]
    exact .base .non
  | bool b =>
    rw [p.bool]
    exact .base (.bl b)
  | int i =>
    rw [p.int]
    exact .base (.int i)
  | str z =>
    rw [p.str]
    exact .base (.str z)
  | list ds =>
    obtain ⟨q, xs, rfl, h1, h2⟩ := p
    rcases h1 with (h1 | ⟨o, h1⟩) | ⟨o, its, n, h1, h3, _⟩
    · exact .base (.lst h1)
    · exact .base (.frz h1)
    · exact .kList h1 h3
  | tuple ds =>
    obtain ⟨q, xs, rfl, h1, h2⟩ := p.tup
    rcases sqT_le rep.sub h1 with (h1 | ⟨o, h1⟩) | ⟨o, its, n, h1, h3, _⟩
    · exact .base (.tup h1)
    · exact .fTuple h1
    · exact .kTuple h1 h3
  | dict _ =>
    have p' : At K F (.dict _) x := p
    cases p' with
    | dct h1 => exact .base (.dK (rep.sub _ _ h1))
    | rcd h0 h1 h2 h3 h4 => exact absurd rfl hr
def vIsi (T : String) (ta : VTE) : VTE := fun e Kp => ta e fun s e1 => match pk s e1 with
  | some d => ∃ b, kitB (tyD d) T = some b ∧ Kp (.val (.bool b)) e1
  | none => False
theorem ve_isi {T : String} {x : Str} {p p2 : Pos} (hT : T ≠ "#rec" := by decide) (hg : Gl X "isinstance") (hm : X.mg "isinstance" = none) (hgT : Gl X x) (hmT : X.mg x = none) (hv : bootBuiltins x = some (.type T)) (ha : VE X a ta) (hn : x ≠ "__name__" := by decide) (hdb : (x == ("__debug__" : Str)) = false := by decide)
    (hs : starEach [a, .Name x p2] X.env = (false, eval a X.env) :: starEach [.Name x p2] X.env := by rfl) (hs2 : starEach [.Name x p2] X.env = (false, eval (.Name x p2) X.env) :: starEach [] X.env := by rfl) (hpl : (backTo pos (starEach [.Name x p2] X.env)).any (·.1) = false := by rfl) :
    VE X (.Call (.Name "isinstance" p) [a, .Name x p2] [] pos) (vIsi T ta) :=
  PE.imp (pe_callB call_isi hg hm (by decide +kernel) (pa_cons ha (pa_cons (pe_bltn (v := .ty T) (u := .type T) hgT hmT hv rfl hn hdb) pa_nil hs2) hs) (by decide) (by decide) hs hpl) fun σ H Q q => by
    obtain ⟨R, F, A, e, Kp, rep, ht, fin⟩ := q
    refine ⟨R, F, A, e, _, rep, ht, fun s1 e1 x F1 A1 H1 k1 f1 p1 rep1 at1 => ?_⟩
    split at k1
    · rename_i d hd
      obtain ⟨b, h1, h2⟩ := k1
      exact ⟨x, .ty T, .type (tyD d), .type T, b, rfl, .ty T, ty_at rep1 at1 hd (fun z => by rw [z, kit_rec hT] at h1; cases h1), kit_ty h1, (fin.tr f1 p1).val rep1 h2 (.bl b)⟩
    · exact k1.elim
def vAug (g : Int → Int → Int) (i : Nat) (t : VTE) : VTS := fun D e => match e.sl[i]? with
  | some (some (.val (.int k))) => t e fun s e1 => (match pk s e1 with
    | some (.int j) => D.nx ⟨e1.sl.set i (some (.val (.int (g k j)))), e1.st⟩
    | _ => False)
  | _ => False
theorem vs_aug {i : Nat} {x : Str} {ex : Expr} {t : VTE} {op : Operator} {g : Int → Int → Int} {pos' : Pos} (hN : X.N.Nodup) (hi : X.N[i]? = some x) (hx : Loc X.env.scope x) (he : VE X ex t) (ho : PIp X op (ipI g)) (hp : ∀ {te : TE}, PE X ex te → PS X (.AugAssign (.Name x pos') op ex pos) (tAug i te (ipI g))) :
    VS X (.AugAssign (.Name x pos') op ex pos) (vAug g i t) := PS.imp (hp he) fun D σ H h => by
  obtain ⟨R, F, A, e, DV, rep, k, fin⟩ := h
  have k' : (match e.sl[i]? with | some (some (.val (.int k))) => t e fun s e1 => (match pk s e1 with | some (.int j) => DV.nx ⟨e1.sl.set i (some (.val (.int (g k j)))), e1.st⟩ | _ => False) | _ => False) := k
  split at k'
  · rename_i n hn
    obtain ⟨v, h1, h2⟩ := rep.slot i _ hn
    cases (show At X.K F (.int n) v from h2)
    refine ⟨.int n, h1, R, F, A, e, _, rep, k', fun s e1 y F1 A1 H1 k1 l1 p1 rep1 a1 => ?_⟩
    split at k1
    · rename_i j hj
      exact ⟨n, j, rfl, (rep1.pk a1 hj).int, fin.nx _ _ _ _ _ k1 l1 p1 (rep1.put (s := .val (.int (g n j))) (.int _))⟩
    · exact k1.elim
  · exact k'.elim
def txts : List D → Option (List Str)
  | [] => some []
  | .str x :: ds => (txts ds).map (x :: ·)
  | _ => none
def opJoin (s : Sl) (ss : List Sl) (e : En) (Kp : KE) : Prop := match pk s e, ss with
  | some (.str z), [t] => (match pk t e with
    | some (.list ds) => ∃ ys, txts ds = some ys ∧ (ys.map (·.length)).sum + ys.length * z.length ≤ 16777216 ∧ Kp (.val (.str (Txt.join z ys))) e
    | _ => False)
  | _, _ => False
theorem strs_at {K : PySem.W.Frag} {F : Hp} : ∀ ys : List Str, AtL K F (ys.map PyData.str) (ys.map V.str)
  | [] => .nil
  | y :: ys => .cons (.str y) (strs_at ys)
structure VFn (P : Program) (w : World) (K : PySem.W.Frag) (mg : Str → Option Value) (base : Heap) (k : Nat) (x : Str) (ps : List Str) (p : VSp) : Prop where
  ex : ∃ f fd, FnOk P w K mg base CX0 k f fd ps (spV K p) ∧ PySem.W.keepIn K (.ref f) = true ∧ Binds K fd ps [] ∧ mg x = some (.ref f)
theorem VFn.mono {P : Program} {w : World} {K : PySem.W.Frag} {mg : Str → Option Value} {base : Heap} {j k : Nat} {x : Str} {ps : List Str} {p : VSp} (h : VFn P w K mg base j x ps p) (l : j ≤ k) : VFn P w K mg base k x ps p := by
  obtain ⟨f, fd, a, b, c, d⟩ := h.ex
  exact ⟨f, fd, a.mono l, b, c, d⟩
theorem spV_imp {K : PySem.W.Frag} {p p' : VSp} (h : ∀ ss st Kp, p' ss st Kp → p ss st Kp) : ∀ vs H Q E, spV K p' vs H Q E → spV K p vs H Q E := fun vs H Q E ⟨R, F, A, ss, st, Kp, r, q, z⟩ => ⟨R, F, A, ss, st, Kp, r, h _ _ _ q, z⟩
/-- a weaker promise -/
theorem VFn.imp {P : Program} {w : World} {K : PySem.W.Frag} {mg : Str → Option Value} {base : Heap} {k : Nat} {x : Str} {ps : List Str} {p p' : VSp} (h : VFn P w K mg base k x ps p) (g : ∀ ss st Kp, p' ss st Kp → p ss st Kp) : VFn P w K mg base k x ps p' := by
  obtain ⟨f, fd, a, b, c, d⟩ := h.ex
  exact ⟨f, fd, a.imp (spV_imp g), b, c, d⟩
theorem ve_call {own : Ob → En → KE → Prop} {j k : Nat} {x : Str} {ps : List Str} {p : VSp} {pp : Pos} {es : List Expr} {t : VTA} (hw : FinW X.K own) (G : VFn X.prog X.w X.K X.mg X.base k x ps p) (hr : Room j X.A) (hk : k ≤ j) (hg : Gl X x)
    (ha : VA X (a :: es) t) (hdb : (x == ("__debug__" : Str)) = false := by decide) (he : starEach (a :: es) X.env = (false, eval a X.env) :: starEach es X.env := by rfl) (hpl : (backTo pos (starEach es X.env)).any (·.1) = false := by rfl) :
    VE X (.Call (.Name x pp) (a :: es) [] pos) (vN (opCallK own p) t) := by
  obtain ⟨f, fd, h1, h2, h3, h4⟩ := G.ex
  exact ve_callK hw h1 (hr.mono hk) hg h4 h2 h3 ha hdb he hpl
def vCall0 (own : Ob → En → KE → Prop) (p : VSp) : VTE := fun e Kp => opCallK own p [] e Kp
/-- what built-in names mean in the module -/
structure Blt (mg : Str → Option Value) : Prop where
  len : mg "len" = none
  max : mg "max" = none
  min : mg "min" = none
  range : mg "range" = none
  int : mg "int" = none
  str : mg "str" = none
  list : mg "list" = none
  tuple : mg "tuple" = none
  bool : mg "bool" = none
  sorted : mg "sorted" = none
  enumerate : mg "enumerate" = none
  zip : mg "zip" = none
  isinstance : mg "isinstance" = none
  all : mg "all" = none
  any : mg "any" = none
  sum : mg "sum" = none
  dict : mg "dict" = none
  set : mg "set" = none
  divmod : mg "divmod" = none
  reversed : mg "reversed" = none
  repr : mg "repr" = none
end
end Vl
namespace Vl
open PySem L2 PySem.Spec PyProof.Rows
/-- a module's constant -/
structure VConst (K : PySem.W.Frag) (mg : Str → Option Value) (x : Str) (d : D) : Prop where
  ex : ∃ v u, mg x = some u ∧ RelV v u ∧ ∀ F, At K F d v
theorem ve_const {X : Cx} {x : Str} {d : D} {pos : Pos} (h : VConst X.K X.mg x d) (hg : Gl X x) (hdb : (x == ("__debug__" : Str)) = false := by decide) : VE X (.Name x pos) (vC d) := by
  obtain ⟨v, u, h1, h2, h3⟩ := h.ex
  exact ve_glob hg h1 h2 h3 hdb
/-- a def whose promise asks what can't be -/
theorem vac {P : Program} {w : World} {K : PySem.W.Frag} {mg : Str → Option Value} {base : Heap} {x qual : Str} {st : Stmt} {f : Addr} {fd : FuncData} {N ps : List Str} {k : Nat} {p : VSp} (F : Fun K x qual st f fd) (S : FnScope N ps (defScope st)) (no : ∀ ss st Kp, ¬ p ss st Kp) :
    FnOk P w K mg base CX0 (k + 1) f fd ps (spV K p) := by
  refine F.ok S (fun vs H Q E h => ?_) fun cdv A outer s H vs Q E hr h => ?_
  · obtain ⟨R, F, A, ss, st, Kp, rep, hp, _⟩ := h
    exact absurd hp (no _ _ _)
  · obtain ⟨R, F, A, ss, st, Kp, rep, hp, _⟩ := h
    exact absurd hp (no _ _ _)
end Vl
namespace Vl
open PySem L2 PySem.Spec PyProof.Rows
def kOpt (o : Option D) (k : D → Prop) : Prop := match o with
  | some d => k d
  | none => False
theorem kOpt_some {d : D} {k : D → Prop} : kOpt (some d) k = k d := rfl
theorem kOpt_ex {o : Option D} {k : D → Prop} (h : kOpt o k) : ∃ d, o = some d ∧ k d := by
  cases o with
  | none => exact h.elim
  | some d => exact ⟨d, rfl, h⟩
def xIx (s1 s2 : Sl) (e : En) (Kp : KE) : Prop := match pk s1 e, pk s2 e with
  | some (.tuple ds), some (.int i) => kOpt (atI ds i) fun d => Kp (.val d) e
  | some (.list ds), some (.int i) => kOpt (atI ds i) fun d => Kp (.val d) e
  | some (.str z), some (.int i) => ∃ c, z.length ≤ sizeLine ∧ atI z.cps.toList i = some c ∧ Kp (.val (.str ⟨#[c]⟩)) e
  | _, _ => False
theorem p_xix {K : PySem.W.Frag} : Prim2 K (rIx K) xIx := by
  intro R F A σ H e x y s1 s2 Kp Q rep a1 a2 ho fin
  refine p_ix rep a1 a2 ?_ fin
  unfold xIx at ho
  unfold opIx
  split at ho
  · rename_i ds i h1 h2
    first | exact kOpt_ex ho | (rw [h1, h2]; exact kOpt_ex ho)
  · rename_i ds i h1 h2
    first | exact kOpt_ex ho | (rw [h1, h2]; exact kOpt_ex ho)
  · rename_i z i h1 h2
    first | exact ho | (rw [h1, h2]; exact ho)
  · exact ho.elim
def xPop (s : Sl) (ss : List Sl) (e : En) (Kp : KE) : Prop := match s with
  | .obj j => (match e.st[j]? with
    | some (some (.l ds)) => kOpt ds.getLast? fun d => Kp (.val d) ⟨e.sl, e.st.set j (some (.l ds.dropLast))⟩
    | _ => False)
  | _ => False
theorem p_xpop {K : PySem.W.Frag} : PrimM K "list" (fun x vs H Q => vs = [] → rPop x vs H Q) xPop := by
  intro R F A σ H e x s xs ss Kp Q rep a0 a1 ho fin hv
  refine p_pop rep a0 a1 ?_ fin hv
  unfold xPop at ho
  unfold opPop
  split at ho
  · rename_i j
    split at ho
    · rename_i ds hd
      first | exact kOpt_ex ho | (dsimp only; rw [hd]; exact kOpt_ex ho)
    · exact ho.elim
  · exact ho.elim
def kOpn (o : Option Nat) (k : Nat → Prop) : Prop := match o with
  | some d => k d
  | none => False
theorem kOpn_some {d : Nat} {k : Nat → Prop} : kOpn (some d) k = k d := rfl
theorem kOpn_ex {o : Option Nat} {k : Nat → Prop} (h : kOpn o k) : ∃ d, o = some d ∧ k d := by
  cases o with
  | none => exact h.elim
  | some d => exact ⟨d, rfl, h⟩
def xgSub (to ti : VTE) : VTG := fun s e Kp => to e fun so e1 => ti e1 fun si e2 => asD s e2 fun d e3 => match so with
  | .obj j => (match pk si e3 with
    | some (.int k) => (match e3.st[j]? with
      | some (some (.l ds)) => kOpn (ixN ds.length k) fun n => Kp ⟨e3.sl, e3.st.set j (some (.l (ds.set n d)))⟩
      | _ => False)
    | _ => False)
  | _ => False
theorem asD_imp {s : Sl} {e : En} {k k' : D → En → Prop} (f : ∀ d e, k d e → k' d e) (h : asD s e k) : asD s e k' := by
  cases s with
  | val d => exact f _ _ h
  | kn ds => exact h.elim
  | exc d => exact h.elim
  | obj j =>
    have h' : (match e.st[j]? with | some (some (.l ds)) => k (.list ds) (e.kill j ds) | _ => False) := h
    show (match e.st[j]? with | some (some (.l ds)) => k' (.list ds) (e.kill j ds) | _ => False)
    split at h'
    · exact f _ _ h'
    · exact h'.elim
section
variable {X : Cx} {a b o i : Expr} {ta tb to ti : VTE} {pos : Pos}
theorem ve_xix (ha : VE X a ta) (hb : VE X b tb) (hs : PlainIx b := by exact fun _ _ => rfl) : VE X (.Subscript a b pos) (v2 xIx ta tb) := ve_ixR p_xix ix_seq ha hb hs
theorem ve_xpop {apos cpos : Pos} (ho : VE X o to) (hbase : attributeBase o "pop" X.env (eval o X.env) = eval o X.env := by rfl) (hline : (apos.endLine == cpos.line) = true := by rfl) :
    VE X (.Call (.Attribute o "pop" apos) [] [] cpos) (vM0 "list" xPop to) := PE.imp (pe_bm0 PySem.F.plainAttrs_list PySem.F.slot_list_pop PySem.F.type_list_pop mt_pop ho hbase hline) fun σ H Q h => by
  obtain ⟨R, F, A, e, Kp, rep, ht, fin⟩ := h
  exact ⟨R, F, A, e, _, rep, ht, fun s1 e1 x F1 A1 H1 k1 f1 p1 rep1 at1 => ⟨isT_ty rep1 at1 k1.1, p_xpop rep1 at1 .nil k1.2 (fin.tr f1 p1) rfl⟩⟩
def MonoE (t : VTE) : Prop := ∀ e (k k' : KE), (∀ s e, k s e → k' s e) → t e k → t e k'
theorem vg_xsub (mo : MonoE to) (mi : MonoE ti) (ho : VE X o to) (hi : VE X i ti) (hp : ∀ {u w : TE}, PE X o u → PE X i w → PG X (.Subscript o i pos) (gSub u w rSetL)) : VG X (.Subscript o i pos) [] (xgSub to ti) := PG.imp (vg_sub ho hi hp) fun v σ H Q h => by
  obtain ⟨R, F, A, e, s, Kp, rep, a, k, fin⟩ := h
  refine ⟨R, F, A, e, s, Kp, rep, a, ?_, fin⟩
  refine mo _ _ _ (fun so e1 k1 => mi _ _ _ (fun si e2 k2 => asD_imp (fun d e3 k3 => ?_) k2) k1) k
  cases so with
  | val _ => exact False.elim k3
  | kn _ => exact False.elim k3
  | exc _ => exact False.elim k3
  | obj j =>
    replace k3 : (match pk si e3 with | some (.int k) => (match e3.st[j]? with | some (some (.l ds)) => kOpn (ixN ds.length k) fun n => Kp ⟨e3.sl, e3.st.set j (some (.l (ds.set n d)))⟩ | _ => False) | _ => False) := k3
    show (match pk si e3 with | some (.int k) => (match e3.st[j]? with | some (some (.l ds)) => ∃ n, ixN ds.length k = some n ∧ Kp ⟨e3.sl, e3.st.set j (some (.l (ds.set n d)))⟩ | _ => False) | _ => False)
    split at k3
    · split at k3
      · exact kOpn_ex k3
      · exact k3.elim
    · exact k3.elim
theorem mono_var (i : Nat) : MonoE (vVar i) := fun e k k' f h => by
  have h' : (match e.sl[i]? with | some (some s) => k s e | _ => False) := h
  show (match e.sl[i]? with | some (some s) => k' s e | _ => False)
  split at h'
  · exact f _ _ h'
  · exact h'.elim
theorem mono_c (d : D) : MonoE (vC d) := fun e k k' f h => f _ _ h
end
end Vl
namespace Vl
open PySem L2 PySem.Spec PyProof.Rows
/-- how a def ends -/
def dV (n : Nat) (Kp : Sl → List Ob → Prop) : VEnds := { nx := fun e => ret n (.val .none) e Kp, rt := fun s e => ret n s e Kp }
theorem dV_nx (n Kp e) : (dV n Kp).nx e = ret n (.val .none) e Kp := rfl
theorem dV_rt (n Kp s e) : (dV n Kp).rt s e = ret n s e Kp := rfl
/-- a def of the module -/
structure Df (K : PySem.W.Frag) (mg : Str → Option Value) (x : Str) (st : Stmt) (ps : List Str) : Prop where
  ex : ∃ f fd, Fun K x x st f fd ∧ Binds K fd ps [] ∧ mg x = some (.ref f)
section
variable {P : Program} {w : World} {K : PySem.W.Frag} {mg : Str → Option Value} {base : Heap}
theorem okF {x : Str} {st : Stmt} {N ps : List Str} {k : Nat} {p : VSp} {t : VTS} (Fd : Df K mg x st ps) (S : FnScope N ps (defScope st)) (len : ∀ ss st Kp, p ss st Kp → ss.length = ps.length)
    (hb : ∀ {f : Addr} {cdv : Value} {A : Around} {outer : List Env} {s : Shared} {H : Hp} {E : XK}, Room k (A.deeper (envOfC x (defScope st) s.heap.objs.size f cdv)) → VSs (cxOf CX0 P w K mg base N x (defScope st) f cdv A outer s H E).nox (defBody st) t)
    (rd : ∀ ss cs Kp, p ss cs Kp → t (dV cs.length Kp) ⟨startV N.length ss, cs.map some⟩) : VFn P w K mg base (k + 1) x ps p := by
  obtain ⟨f, fd, F, b, g⟩ := Fd.ex
  exact ⟨f, fd, okV F S len fun cdv A outer s H E hr => ⟨t, hb hr, rd⟩, F.kp, b, g⟩
theorem vacF {x : Str} {st : Stmt} {N ps : List Str} {k : Nat} {p : VSp} (Fd : Df K mg x st ps) (S : FnScope N ps (defScope st)) (no : ∀ ss st Kp, ¬ p ss st Kp) : VFn P w K mg base (k + 1) x ps p := by
  obtain ⟨f, fd, F, b, g⟩ := Fd.ex
  exact ⟨f, fd, vac F S no, F.kp, b, g⟩
end
theorem at0 {x : D} {xs : List D} : atI (x :: xs) 0 = some x := atI_nat (j := 0) rfl
theorem at1 {x y : D} {xs : List D} : atI (x :: y :: xs) 1 = some y := atI_nat (j := 1) rfl
theorem at2 {x y z : D} {xs : List D} : atI (x :: y :: z :: xs) 2 = some z := atI_nat (j := 2) rfl
theorem at3 {x y z u : D} {xs : List D} : atI (x :: y :: z :: u :: xs) 3 = some u := atI_nat (j := 3) rfl
theorem ix20 : ixN 2 0 = some 0 := rfl
theorem ix21 : ixN 2 1 = some 1 := rfl
theorem map_inj' {α β : Type} {f : α → β} (h : ∀ x y, f x = f y → x = y) : ∀ {a b : List α}, a.map f = b.map f → a = b
  | [], [], _ => rfl
  | [], _ :: _, e => by simp at e
  | _ :: _, [], e => by simp at e
  | x :: a, y :: b, e => by
    simp only [List.map_cons, List.cons.injEq] at e
    rw [h _ _ e.1, map_inj' h e.2]
theorem ofs_inj (a b : String) : (Str.ofString a = Str.ofString b) = (a = b) := by
  refine propext ⟨fun h => ?_, fun h => by rw [h]⟩
  rw [Str.ofString_eq_toList, Str.ofString_eq_toList] at h
  have h1 : a.toList.map Char.toNat = b.toList.map Char.toNat := by
    have := congrArg (fun s => s.cps.toList) h
    simpa using this
  exact String.toList_inj.mp (map_inj' (fun x y e => Char.ext (UInt32.toNat_inj.mp e)) h1)
theorem ofs_app (a b : String) : Str.ofString a ++ Str.ofString b = Str.ofString (a ++ b) := by
  rw [Str.ofString_eq_toList, Str.ofString_eq_toList, Str.ofString_eq_toList, String.toList_append, List.map_append]
  show Str.mk _ = Str.mk _
  congr 1
  simp
theorem ofs_len (a : String) : (Str.ofString a).length = a.length := by
  rw [Str.ofString_eq_toList]
  show (a.toList.map Char.toNat).toArray.size = _
  simp [String.length_toList]
def okEq : D → D → Prop
  | .int _, .int _ => True
  | .str _, .str _ => True
  | d, c => shp d = true ∧ shp c = true
theorem okEq_of {d c : D} (h1 : shp d = true) (h2 : shp c = true) : okEq d c := by
  unfold okEq
  split <;> first | trivial | exact ⟨h1, h2⟩
def xEq (neg : Bool) (s1 s2 : Sl) (e : En) (Kp : KE) : Prop := match pk s1 e, pk s2 e with
  | some d, some c => okEq d c ∧ Kp (.val (.bool (if neg then !PyData.eqv d c else PyData.eqv d c))) e
  | _, _ => False
theorem xEq_of {neg : Bool} {s1 s2 : Sl} {e : En} {Kp : KE} (h : xEq neg s1 s2 e Kp) : opEq neg s1 s2 e Kp := by
  unfold xEq at h
  unfold opEq
  split at h
  · rename_i d c h1 h2
    rw [h1, h2]
    split
    · rename_i i j a1 a2
      cases a1
      cases a2
      have q := h.2
      have z : PyData.eqv (.int i) (.int j) = decide (i = j) := Bool.eq_iff_iff.mpr (by show (i == j) = true ↔ _; simp)
      rw [z] at q
      exact q
    · rename_i i j a1 a2
      cases a1
      cases a2
      have q := h.2
      have z : PyData.eqv (.str i) (.str j) = decide (i = j) := Bool.eq_iff_iff.mpr (by show (i == j) = true ↔ _; simp)
      rw [z] at q
      exact q
    · rename_i d' c' n1 n2 a1 a2
      cases a1
      cases a2
      have q := h.1
      unfold okEq at q
      split at q
      · exact absurd rfl (n1 _ _ rfl)
      · exact absurd rfl (n2 _ _ rfl)
      · exact ⟨q.1, q.2, h.2⟩
    · rename_i n1
      exact n1 _ _ rfl rfl
  · exact h.elim
theorem p_xeq {K : PySem.W.Frag} {neg : Bool} : Prim2 K (rEq2 K neg) (xEq neg) := fun rep a1 a2 ho fin => p_eq rep a1 a2 (xEq_of ho) fin
section
variable {X : Cx} {a b : Expr} {ta tb : VTE} {pos : Pos}
theorem ve_xeq (hu : X.A.units + 190 < cLine) (ha : VE X a ta) (hb : VE X b tb) (hm : behindInMarks .Eq b = false := by exact nomark _) : VE X (.Compare a [.Eq] [b] pos) (v2 (xEq false) ta tb) := ve_cmp p_xeq (op_eq2 hu) ha hb hm
theorem ve_xne (hu : X.A.units + 190 < cLine) (ha : VE X a ta) (hb : VE X b tb) (hm : behindInMarks .NotEq b = false := by exact nomark _) : VE X (.Compare a [.NotEq] [b] pos) (v2 (xEq true) ta tb) := ve_cmp p_xeq (op_ne2 hu) ha hb hm
theorem vt_xeq (hu : X.A.units + 190 < cLine) (ha : VE X a ta) (hb : VE X b tb) (hm : behindInMarks .Eq b = false := by exact nomark _) : VT X (.Compare a [.Eq] [b] pos) (vTest (v2 (xEq false) ta tb)) := vt_cmp p_xeq (op_eq2 hu) ha hb hm
theorem vt_xne (hu : X.A.units + 190 < cLine) (ha : VE X a ta) (hb : VE X b tb) (hm : behindInMarks .NotEq b = false := by exact nomark _) : VT X (.Compare a [.NotEq] [b] pos) (vTest (v2 (xEq true) ta tb)) := vt_cmp p_xeq (op_ne2 hu) ha hb hm
end
theorem okEq_str (a b : Str) : okEq (.str a) (.str b) = True := rfl
theorem okEq_int (a b : Int) : okEq (.int a) (.int b) = True := rfl
theorem eqv_str (a b : Str) : PyData.eqv (.str a) (.str b) = decide (a = b) := by
  show (a == b) = _
  exact Bool.eq_iff_iff.mpr (by simp)
theorem eqvAll_cons (a b : D) (as bs : List D) : PyData.eqvAll (a :: as) (b :: bs) = (PyData.eqv a b && PyData.eqvAll as bs) := by
  rw [PyData.eqvAll]
theorem eqvAll_nil : PyData.eqvAll [] [] = true := by rw [PyData.eqvAll]
theorem eqv_tup (as bs : List D) : PyData.eqv (.tuple as) (.tuple bs) = PyData.eqvAll as bs := by rw [PyData.eqv]
theorem eqvAll_nc (b : D) (bs : List D) : PyData.eqvAll [] (b :: bs) = false := by rw [PyData.eqvAll]
theorem eqvAll_cn (b : D) (bs : List D) : PyData.eqvAll (b :: bs) [] = false := by rw [PyData.eqvAll]
theorem depthAll_nil : PyData.depthAll [] = 0 := by rw [PyData.depthAll]
theorem depthAll_cons (x : D) (xs : List D) : PyData.depthAll (x :: xs) = max x.depth (PyData.depthAll xs) := by rw [PyData.depthAll]
theorem depth_tup (xs : List D) : PyData.depth (.tuple xs) = PyData.depthAll xs + 1 := by rw [PyData.depth]
theorem depth_lst (xs : List D) : PyData.depth (.list xs) = PyData.depthAll xs + 1 := by rw [PyData.depth]
theorem depth_str (x : Str) : PyData.depth (.str x) = 0 := by rw [PyData.depth]
theorem depth_int (x : Int) : PyData.depth (.int x) = 0 := by rw [PyData.depth]
theorem can_tup (xs : List D) : PyData.canLay0 (.tuple xs) = PyData.canLayAll0 xs := by rw [PyData.canLay0]
theorem can_lst (xs : List D) : PyData.canLay0 (.list xs) = PyData.canLayAll0 xs := by rw [PyData.canLay0]
theorem can_str (x : Str) : PyData.canLay0 (.str x) = PyData.strOk x := by rw [PyData.canLay0]
theorem can_int (x : Int) : PyData.canLay0 (.int x) = true := by rw [PyData.canLay0]
theorem canAll_nil : PyData.canLayAll0 [] = true := by rw [PyData.canLayAll0]
theorem canAll_cons (x : D) (xs : List D) : PyData.canLayAll0 (x :: xs) = (x.canLay0 && PyData.canLayAll0 xs) := by rw [PyData.canLayAll0]
theorem cut1 (x : D) (xs : List D) : Vl.cut (x :: xs) (some 1) none = xs := by
  unfold Vl.cut HT.sIx
  simp
theorem eqv_int (a b : Int) : PyData.eqv (.int a) (.int b) = decide (a = b) := by
  show (a == b) = _
  exact Bool.eq_iff_iff.mpr (by simp)
theorem sz0 : (0 ≤ sizeLine) = True := eq_true (by decide)
theorem sz1 : (1 ≤ sizeLine) = True := eq_true (by decide)
theorem sz2 : (2 ≤ sizeLine) = True := eq_true (by decide)
theorem sz3 : (3 ≤ sizeLine) = True := eq_true (by decide)
theorem sz4 : (4 ≤ sizeLine) = True := eq_true (by decide)
theorem sz5 : (5 ≤ sizeLine) = True := eq_true (by decide)
theorem sz6 : (6 ≤ sizeLine) = True := eq_true (by decide)
theorem sz7 : (7 ≤ sizeLine) = True := eq_true (by decide)
theorem sz8 : (8 ≤ sizeLine) = True := eq_true (by decide)
theorem sz9 : (9 ≤ sizeLine) = True := eq_true (by decide)
theorem sz10 : (10 ≤ sizeLine) = True := eq_true (by decide)
theorem sz11 : (11 ≤ sizeLine) = True := eq_true (by decide)
theorem sz12 : (12 ≤ sizeLine) = True := eq_true (by decide)
theorem sz13 : (13 ≤ sizeLine) = True := eq_true (by decide)
theorem sz14 : (14 ≤ sizeLine) = True := eq_true (by decide)
theorem sz15 : (15 ≤ sizeLine) = True := eq_true (by decide)
theorem sz16 : (16 ≤ sizeLine) = True := eq_true (by decide)
theorem sz17 : (17 ≤ sizeLine) = True := eq_true (by decide)
theorem sz18 : (18 ≤ sizeLine) = True := eq_true (by decide)
theorem sz19 : (19 ≤ sizeLine) = True := eq_true (by decide)
theorem sz20 : (20 ≤ sizeLine) = True := eq_true (by decide)
theorem sz21 : (21 ≤ sizeLine) = True := eq_true (by decide)
theorem sz22 : (22 ≤ sizeLine) = True := eq_true (by decide)
theorem sz23 : (23 ≤ sizeLine) = True := eq_true (by decide)
theorem sz24 : (24 ≤ sizeLine) = True := eq_true (by decide)
theorem sz25 : (25 ≤ sizeLine) = True := eq_true (by decide)
theorem cpow1018 : CPow 10 18 = True := eq_true ⟨by decide, by decide, by decide⟩
end Vl
namespace Vl
open PySem L2 PySem.Spec PyProof.Rows
def isNone : D → Bool
  | .none => true
  | _ => false
theorem isNone_n : isNone .none = true := rfl
theorem isNone_t (ds : List D) : isNone (.tuple ds) = false := rfl
theorem isNone_l (ds : List D) : isNone (.list ds) = false := rfl
theorem isNone_i (i : Int) : isNone (.int i) = false := rfl
theorem isNone_s (i : Str) : isNone (.str i) = false := rfl
theorem vNext_mk (n r b c x e) : vNext ⟨n, r, b, c, x⟩ e = n e := rfl
def xIsN (neg : Bool) (s1 s2 : Sl) (e : En) (Kp : KE) : Prop := match pk s1 e, pk s2 e with
  | some d, some .none => Kp (.val (.bool (if neg then !isNone d else isNone d))) e
  | _, _ => False
theorem xIsN_of {neg : Bool} {s1 s2 : Sl} {e : En} {Kp : KE} (h : xIsN neg s1 s2 e Kp) : opIsN neg s1 s2 e Kp := by
  unfold xIsN at h
  unfold opIsN
  cases h1 : pk s1 e with
  | none =>
    rw [h1] at h
    exact h.elim
  | some d =>
    rw [h1] at h
    cases h2 : pk s2 e with
    | none =>
      rw [h2] at h
      exact h.elim
    | some c =>
      rw [h2] at h
      cases c <;> first | exact h.elim | skip
      cases d <;> cases neg <;> exact h
section
variable {X : Cx} {a b : Expr} {ta tb : VTE} {pos : Pos}
theorem p_xisN {K : PySem.W.Frag} : Prim2 K (fun x y H Q => y = .non ∧ Q (.bl (decide (x = .non))) H) (xIsN false) := fun rep a1 a2 ho fin => p_isN rep a1 a2 (xIsN_of ho) fin
theorem p_xnotN {K : PySem.W.Frag} : Prim2 K (fun x y H Q => y = .non ∧ Q (.bl (!decide (x = .non))) H) (xIsN true) := fun rep a1 a2 ho fin => p_notN rep a1 a2 (xIsN_of ho) fin
theorem vt_xisN (ha : VE X a ta) (hb : VE X b tb) (hm : behindInMarks .Is b = false := by exact nomark _) : VT X (.Compare a [.Is] [b] pos) (vTest (v2 (xIsN false) ta tb)) := vt_cmp p_xisN op_isN ha hb hm
theorem vt_xnotN (ha : VE X a ta) (hb : VE X b tb) (hm : behindInMarks .IsNot b = false := by exact nomark _) : VT X (.Compare a [.IsNot] [b] pos) (vTest (v2 (xIsN true) ta tb)) := vt_cmp p_xnotN op_notN ha hb hm
end
def okIn (d : D) : D → Prop
  | .tuple ds => flatD d = true ∧ ds.all flatD = true
  | .list ds => SeqAt.shaped d = true ∧ SeqAt.shaped (.list ds) = true
  | _ => False
def inD (d : D) : D → Bool
  | .tuple ds => ds.any fun z => PyData.eqv z d
  | .list ds => ds.any fun z => PyData.eqv z d
  | _ => false
def xIn (neg : Bool) (s1 s2 : Sl) (e : En) (Kp : KE) : Prop := match pk s1 e, pk s2 e with
  | some d, some c => okIn d c ∧ Kp (.val (.bool (if neg then !inD d c else inD d c))) e
  | _, _ => False
theorem xIn_of {neg : Bool} {s1 s2 : Sl} {e : En} {Kp : KE} (h : xIn neg s1 s2 e Kp) : opIn3 neg s1 s2 e Kp := by
  unfold xIn at h
  unfold opIn3 opIn
  cases h1 : pk s1 e with
  | none =>
    rw [h1] at h
    exact h.elim
  | some d =>
    rw [h1] at h
    cases h2 : pk s2 e with
    | none =>
      rw [h2] at h
      exact h.elim
    | some c =>
      rw [h2] at h
      have h' : okIn d c ∧ Kp (.val (.bool (if neg then !inD d c else inD d c))) e := h
      cases c with
      | tuple ds => exact ⟨h'.1.1, h'.1.2, h'.2⟩
      | list ds => cases d <;> exact ⟨h'.1.1, h'.1.2, h'.2⟩
      | _ => exact h'.1.elim
section
variable {X : Cx} {a b : Expr} {ta tb : VTE} {pos : Pos}
theorem p_xin {K : PySem.W.Frag} : Prim2 K (rIn3 K) (xIn false) := fun rep a1 a2 ho fin => p_in3 rep a1 a2 (xIn_of ho) fin
theorem p_xnotIn {K : PySem.W.Frag} : Prim2 K (rNotIn3 K) (xIn true) := fun rep a1 a2 ho fin => p_notIn3 rep a1 a2 (xIn_of ho) fin
theorem vt_xin (hu : X.A.units + 190 < cLine) (ha : VE X a ta) (hb : VE X b tb) (hm : behindInMarks .In b = false := by first | rfl | exact nomark _) : VT X (.Compare a [.In] [b] pos) (vTest (v2 (xIn false) ta tb)) := vt_cmp p_xin (op_in3 hu) ha hb hm
theorem vt_xnotIn (hu : X.A.units + 190 < cLine) (ha : VE X a ta) (hb : VE X b tb) (hm : behindInMarks .NotIn b = false := by first | rfl | exact nomark _) : VT X (.Compare a [.NotIn] [b] pos) (vTest (v2 (xIn true) ta tb)) := vt_cmp p_xnotIn (op_notIn3 hu) ha hb hm
end
theorem eqv_ti (as : List D) (i : Int) : PyData.eqv (.tuple as) (.int i) = false := by rw [PyData.eqv]
theorem eqv_it (as : List D) (i : Int) : PyData.eqv (.int i) (.tuple as) = false := by rw [PyData.eqv]
theorem eqv_st (as : List D) (i : Str) : PyData.eqv (.str i) (.tuple as) = false := by rw [PyData.eqv]
theorem eqv_ts (as : List D) (i : Str) : PyData.eqv (.tuple as) (.str i) = false := by rw [PyData.eqv]
theorem eqv_lst (as bs : List D) : PyData.eqv (.list as) (.list bs) = PyData.eqvAll as bs := by rw [PyData.eqv]
theorem eqv_nil (xs : List D) : PyData.eqv (.list xs) (.list []) = xs.isEmpty := by
  cases xs with
  | nil => rw [PyData.eqv, eqvAll_nil]; rfl
  | cons x xs => rw [PyData.eqv, eqvAll_cn]; rfl
theorem cl_inv {g : VTG} {tt : VTT} {te : VTE} {chk : Option (En → Prop)} {vs : List Nat} {n : Nat} {ds : List D} {Kp : List D → En → Prop} (I : Nat → List D → En → Prop) (hc : ∀ i acc e, i ≤ ds.length → I i acc e → okc chk e)
    (hs : ∀ (i : Nat) (d : D) (acc : List D) (e : En) (Kt : List D → En → Prop), ds[i]? = some d → I i acc e → (∀ acc' e', I (i + 1) acc' e' → Kt acc' e') → g (.val d) e fun e1 => tt e1 fun b e2 => if b = true then te e2 fun s e3 => asD s e3 fun y e4 => acc.length < sizeLine ∧ Kt (acc ++ [y]) ((e4.wipe vs).trim n) else Kt acc ((e2.wipe vs).trim n))
    (hd : ∀ acc e, I ds.length acc e → Kp acc e) {acc : List D} {e : En} (h0 : I 0 acc e) : cl g tt te chk vs n ds acc e Kp := by
  have wc : ∀ {e : En} {p : Prop}, okc chk e → p → wth chk e p := fun {e p} h q => by
    cases chk with
    | none => exact q
    | some c => exact ⟨h, q⟩
  suffices h : ∀ (m i : Nat) (acc : List D) (e : En), m = ds.length - i → i ≤ ds.length → I i acc e → cl g tt te chk vs n (ds.drop i) acc e Kp by
    have := h ds.length 0 acc e (by simp) (Nat.zero_le _) h0
    simpa using this
  intro m
  induction m with
  | zero =>
    intro i acc e hm hi h
    have : i = ds.length := by omega
    subst this
    rw [List.drop_length]
    exact wc (hc _ _ _ hi h) (hd acc e h)
  | succ m ih =>
    intro i acc e hm hi h
    have hlt : i < ds.length := by omega
    rw [List.drop_eq_getElem_cons hlt]
    exact wc (hc _ _ _ hi h) (hs i _ acc e (fun acc' e' => cl g tt te chk vs n (ds.drop (i + 1)) acc' e' Kp) (List.getElem?_eq_getElem hlt) h fun acc' e' h' => ih (i + 1) acc' e' (by omega) hlt h')
end Vl
namespace Vl
open PySem L2
section
variable {X : Cx} {a b c : Expr} {ta tb tc : VTE} {pos : Pos}
theorem lift_chain {r r' : R2} {o o' : Sl → Sl → En → KE → Prop} (p : Prim2 X.K r o) (p' : Prim2 X.K r' o') (σ : L2.St) (H : Hp) (Q : VK) (h : liftE X.K (vChain o o' ta tb tc) σ H Q) : tChain r r' (liftE X.K ta) (liftE X.K tb) (liftE X.K tc) σ H Q := by
  obtain ⟨R, F, A, e, Kp, rep, ht, fin⟩ := h
  refine ⟨R, F, A, e, _, rep, ht, fun s1 e1 x F1 A1 H1 k1 f1 p1 rep1 at1 => ⟨R, F1, A1, e1, _, rep1, k1, fun s2 e2 y F2 A2 H2 k2 f2 p2 rep2 at2 => p rep2 (at1.le f2 p2) at2 k2 fun z e3 v F3 A3 H3 k3 f3 p3 rep3 at3 => ?_⟩⟩
  have fin3 := fin.tr (f1.trans (f2.trans f3)) (p1.trans (p2.trans p3))
  split at k3
  · rename_i b hb
    refine ⟨b, (rep3.pk at3 hb).bool, ?_⟩
    split at k3
    · rename_i hb2
      rw [if_pos hb2]
      exact ⟨R, F3, A3, e3, _, rep3, k3, fun s3 e4 w F4 A4 H4 k4 f4 p4 rep4 at4 => p' rep4 (at2.le (f3.trans f4) (p3.trans p4)) at4 k4 (fin3.tr f4 p4)⟩
    · rename_i hb2
      rw [if_neg hb2]
      exact fin3.val rep3 k3 (.bl false)
  · exact k3.elim
theorem vt_chain {op op' : CmpOp} {r r' : R2} {o o' : Sl → Sl → En → KE → Prop} (p : Prim2 X.K r o) (p' : Prim2 X.K r' o') (ho : OpR X (compareOp op) r) (ho' : OpR X (compareOp op') r') (ha : VE X a ta) (hb : VE X b tb) (hc : VE X c tc)
    (hm : lastMarks [op, op'] [b, c] = false := by with_unfolding_all rfl) : VT X (.Compare a [op, op'] [b, c] pos) (vTest (vChain o o' ta tb tc)) :=
  PT.imp (pt_chain ho ho' ha hb hc hm) fun σ H Q h => lift_chain p p' σ H _ (by
    obtain ⟨R, F, A, e, Kp, rep, ht, fin⟩ := h
    refine ⟨R, F, A, e, _, rep, ht, fun s1 e1 x F1 A1 H1 k1 f1 p1 rep1 at1 => ?_⟩
    split at k1
    · rename_i b hb
      exact ⟨b, (rep1.pk at1 hb).bool, fin b e1 F1 A1 H1 k1 f1 p1 rep1⟩
    · exact k1.elim)
end
open PySem.Spec PyProof.Rows PySem.Calls
end Vl
namespace Vl
open PySem L2 PySem.Spec PyProof.Rows
def intsD : List D → Option (List Int)
  | [] => some []
  | .int x :: ds => (intsD ds).map (x :: ·)
  | _ => none
def kOps {α : Type} (o : Option α) (k : α → Prop) : Prop := match o with
  | some d => k d
  | none => False
theorem kOps_some {α : Type} {d : α} {k : α → Prop} : kOps (some d) k = k d := rfl
theorem kOps_ex {α : Type} {o : Option α} {k : α → Prop} (h : kOps o k) : ∃ d, o = some d ∧ k d := by
  cases o with
  | none => exact h.elim
  | some d => exact ⟨d, rfl, h⟩
def opSum (ss : List Sl) (e : En) (Kp : KE) : Prop := match ss with
  | [s] => (match pk s e with
    | some (.list ds) => kOps (intsD ds) fun ns => Kp (.val (.int ns.sum)) e
    | _ => False)
  | _ => False
section
variable {X : Cx} {a b o : Expr} {ta tb to : VTE} {pos : Pos}
def opInsert (s : Sl) (ss : List Sl) (e : En) (Kp : KE) : Prop := match ss with
  | [si, t] => (match pk si e with
    | some (.int i) => asD t e fun d e1 => (match s with
      | .obj j => (match e1.st[j]? with
        | some (some (.l ds)) => (ds.length < sizeLine ∧ 0 ≤ i ∧ i < 2 ^ 63) ∧ Kp (.val .none) ⟨e1.sl, e1.st.set j (some (.l (ds.take i.toNat ++ [d] ++ ds.drop i.toNat)))⟩
        | _ => False)
      | _ => False)
    | _ => False)
  | _ => False
/-- where data stands first -/
def ixD (d : D) : List D → Option Nat
  | [] => none
  | z :: ds => if PyData.eqv z d = true then some 0 else (ixD d ds).map (· + 1)
theorem ixD_ok {d : D} : ∀ {ds : List D} {j : Nat}, ixD d ds = some j → ∃ z, ds[j]? = some z ∧ PyData.eqv z d = true ∧ ∀ (m : Nat) (z' : D), m < j → ds[m]? = some z' → PyData.eqv z' d = false
  | [], j, h => by cases h
  | z :: ds, j, h => by
    have h' : (if PyData.eqv z d = true then some 0 else (ixD d ds).map (· + 1)) = some j := h
    split at h'
    · rename_i hz
      cases h'
      exact ⟨z, rfl, hz, fun m z' hm => absurd hm (Nat.not_lt_zero m)⟩
    · rename_i hz
      obtain ⟨i, hi, rfl⟩ := Option.map_eq_some_iff.mp h'
      obtain ⟨y, h1, h2, h3⟩ := ixD_ok hi
      refine ⟨y, by simpa using h1, h2, fun m z' hm hz' => ?_⟩
      cases m with
      | zero =>
        simp at hz'
        subst hz'
        simpa using hz
      | succ m => exact h3 m z' (by omega) (by simpa using hz')
def opIndex (s : Sl) (ss : List Sl) (e : En) (Kp : KE) : Prop := match ss with
  | [t] => (match pk s e, pk t e with
    | some (.list ds), some d => (SeqAt.shaped (.list ds) = true ∧ SeqAt.shaped d = true) ∧ kOps (ixD d ds) fun j => Kp (.val (.int (j : Nat))) e
    | _, _ => False)
  | _ => False
theorem p_index {K : PySem.W.Frag} : PrimM K "list" (rIndexD K) opIndex := by
  intro R F A σ H e x s xs ss Kp Q rep a0 a1 ho fin
  unfold opIndex at ho
  split at ho
  · obtain ⟨y, rfl, a2⟩ := a1.one
    split at ho
    · rename_i ds d h1 h2
      obtain ⟨⟨s1, s2⟩, ho⟩ := ho
      obtain ⟨j, hj, k⟩ := kOps_ex ho
      obtain ⟨z, z1, z2, z3⟩ := ixD_ok hj
      obtain ⟨q, ys, rfl, q1, q2⟩ := rep.pk a0 h1
      have hd := Pk.dp rep.sub (d := .list ds) (SeqAt.canLay_of_shaped s1) ⟨q, ys, rfl, q1, q2⟩
      exact ⟨q, y, d, ds, j, z, rfl, rfl, hd, (rep.pk a2 h2).dp rep.sub (SeqAt.canLay_of_shaped s2), s1, s2, z1, z2, z3, fin.val rep k (.int _)⟩
    · exact ho.elim
  · exact ho.elim
def opDivmod (ss : List Sl) (e : En) (Kp : KE) : Prop := match ss with
  | [s, t] => (match pk s e, pk t e with
    | some (.int i), some (.int j) => CDiv6 i j ∧ Kp (.val (.tuple [.int (i / j), .int (i % j)])) e
    | _, _ => False)
  | _ => False
end
end Vl
namespace Vl
open PySem L2 PySem.Spec PyProof.Rows
theorem cl_mapE {α : Type} {g : VTG} {te : VTE} {vs : List Nat} {n : Nat} {Kp : List D → En → Prop} (enc f : α → D) (xs : List α) {e : En} {acc : List D} (hl : acc.length + xs.length ≤ sizeLine)
    (hs : ∀ (x : α) (Kt : D → En → Prop), x ∈ xs → (∀ e', (e'.wipe vs).trim n = e → Kt (f x) e') → g (.val (enc x)) e fun e1 => te e1 fun s e3 => asD s e3 Kt) (h : Kp (acc ++ xs.map f) e) : cl g vYes te none vs n (xs.map enc) acc e Kp := by
  refine cl_inv (chk := none) (fun i a e' => a = acc ++ (xs.take i).map f ∧ e' = e) (fun _ _ _ _ _ => trivial) ?_ ?_ ⟨by simp, rfl⟩
  · rintro i d a e' Kt hd ⟨rfl, rfl⟩ hk
    rw [List.getElem?_map] at hd
    obtain ⟨x, hx, rfl⟩ := Option.map_eq_some_iff.mp hd
    have hlt := (List.getElem?_eq_some_iff.mp hx).1
    unfold vYes
    simp only [if_true]
    refine hs x (fun y e4 => (acc ++ (xs.take i).map f).length < sizeLine ∧ Kt (acc ++ (xs.take i).map f ++ [y]) ((e4.wipe vs).trim n)) (List.mem_of_getElem? hx) fun e4 h4 => ⟨?_, hk _ _ ⟨?_, h4⟩⟩
    · rw [List.length_append, List.length_map, List.length_take]
      omega
    · rw [List.take_add_one, hx, List.map_append, List.append_assoc] <;> rfl
  · rintro a e' ⟨rfl, rfl⟩
    rw [List.length_map, List.take_length]
    exact h
theorem rng_eq (lo : Int) (n : Nat) : rng lo n = (List.range n).map fun (i : Nat) => PyData.int (lo + i) := rfl
end Vl
namespace Vl
open PySem L2 PySem.Spec PyProof.Rows
def spLaw (K : PySem.W.Frag) : Sp := fun vs H Q _ => ∃ (a : Addr) (ns : List Int), vs = [.ref a] ∧ SqL K H a (ns.map V.int) ∧ ns.length ≤ 63 ∧ (∀ P, TbK K P → GxR.TabG H P) ∧ ∀ H', Q (.bl true) H'
def pLaw : VSp := fun ss st Kp => ∃ ns : List Int, ss = [.kn (ns.map .int)] ∧ st = [] ∧ ns.length ≤ 63 ∧ Kp (.val (.bool true)) []
theorem atL_ints {K : PySem.W.Frag} {F : Hp} : ∀ ns : List Int, AtL K F (ns.map .int) (ns.map V.int)
  | [] => .nil
  | n :: ns => .cons (.int n) (atL_ints ns)
open Classical in
theorem law_sp {K : PySem.W.Frag} : ∀ vs H Q E, spLaw K vs H Q E → spV K pLaw vs H Q E := by
  rintro vs H Q E ⟨a, ns, rfl, hs, hl, ht, hq⟩
  let F : Hp := fun b => if b = a ∧ ¬ TbK K b then H b else none
  have hF : ∀ {b : Addr} {o : HO}, F b = some o → H b = some o := fun {b o} h => by
    have h' : (if b = a ∧ ¬ TbK K b then H b else none) = some o := h
    split at h'
    · exact h'
    · cases h'
  have ha : ∀ o, H a = some o → (∀ ps, o ≠ .tbl ps) → F a = some o := fun o h no => by
    show (if a = a ∧ ¬ TbK K a then H a else none) = some o
    rw [if_pos ⟨rfl, fun z => by
      obtain ⟨ps, h1, _⟩ := ht a z
      rw [h] at h1
      exact no ps (Option.some.inj h1)⟩, h]
  have tb : Tbs K (fun _ => none) F H [] := ⟨fun P hP => ⟨ht P hP, by
    show (if P = a ∧ ¬ TbK K P then H P else none) = none
    rw [if_neg (fun z => z.2 hP)], rfl, List.not_mem_nil⟩⟩
  refine ⟨fun _ => none, F, [], [.kn (ns.map .int)], [], fun s st => s = .val (.bool true), ⟨fun b o h => hF h, fun _ _ h => (nomatch h), fun _ _ h => (nomatch h), rfl, rfl, List.nodup_nil, fun _ h => (nomatch h), fun i s h => ?_, fun j ob h => (by simp at h), tb⟩, ⟨ns, rfl, rfl, hl, rfl⟩, ?_⟩
  · cases i with
    | zero =>
      have h' : some (some (Sl.kn (ns.map .int))) = some (some s) := h
      cases h'
      refine ⟨.ref a, rfl, a, ns.map V.int, rfl, ?_, atL_ints ns⟩
      rcases hs with (h | ⟨o, h⟩) | h
      · exact .inl (.inl (ha _ h fun _ z => by cases z))
      · exact .inl (.inr ⟨o, ha _ h fun _ z => by cases z⟩)
      · exact .inr h
    | succ i => simp at h
  · rintro s st' v F' A' H' rfl l p rep
    obtain ⟨v', hv, av⟩ := rep.slot 0 _ rfl
    have e : some v = some v' := by simpa using hv
    cases e
    cases (show At K F' (.bool true) v from av)
    exact hq H'
end Vl
namespace Vl
open PySem L2
def En.wk (m : Nat) (fs : List Nat) (e : En) : En := if e.st.any isMo = true then ⟨wipeE e.sl fs, e.st⟩ else ⟨(wipeE e.sl fs).map (clr m), e.st.take m⟩
theorem Rep.wk {K : PySem.W.Frag} {R F : Hp} {A A1 : List Addr} {σ : L2.St} {H : Hp} {e : En} (r : Rep K R F A σ H e) {n : Nat} (p : A1 <+: A) (hn : A1.length = n) (m : Nat) (fs : List Nat) (hm : n ≤ m) : ∃ A', A1 <+: A' ∧ Rep K R F A' σ H (e.wk m fs) := by
  have r' : Rep K R F A σ H ⟨wipeE e.sl fs, e.st⟩ := r.weak (by rw [wipeE_len]; exact r.len) fun i s h => r.slot i s (wipeE_at h).2
  by_cases hmo : e.st.any isMo = true
  · refine ⟨A, p, ?_⟩
    unfold En.wk
    rw [if_pos hmo]
    exact r'
  have et : e.wk m fs = ⟨(wipeE e.sl fs).map (clr m), e.st.take m⟩ := by
    unfold En.wk
    rw [if_neg hmo]
  rw [et]
  have pa : A.take m <+: A := List.take_prefix _ _
  refine ⟨A.take m, ?_, r.sub, r.keep, fun a o z => ⟨(r.apart a o z).1, fun hm => (r.apart a o z).2 (List.mem_of_mem_take hm)⟩, by simp [r'.len], ?_, ?_, fun a ha => r.live a (List.mem_of_mem_take ha), fun i s z => ?_, fun j ob z => ?_, r.tabs.sub fun a ha => List.mem_of_mem_take ha⟩
  · have h1 : A1.length ≤ A.length := p.length_le
    exact List.prefix_of_prefix_length_le p pa (by rw [List.length_take]; omega)
  · show (e.st.take m).length = _
    rw [List.length_take, List.length_take, r.lenA]
  · exact (List.take_sublist _ _).nodup r.nodup
  · have z' : ((wipeE e.sl fs).map (clr m))[i]? = some (some s) := z
    rw [List.getElem?_map] at z'
    obtain ⟨t, ht, hs⟩ := Option.map_eq_some_iff.mp z'
    cases t with
    | none => cases hs
    | some t =>
      obtain ⟨v, h1, h2⟩ := r'.slot i t ht
      cases t with
      | val d =>
        cases hs
        exact ⟨v, h1, h2⟩
      | kn d =>
        cases hs
        exact ⟨v, h1, h2⟩
      | exc d =>
        cases hs
        exact ⟨v, h1, h2⟩
      | obj j =>
        replace hs : (if j < m then some (Sl.obj j) else none) = some s := hs
        split at hs
        · rename_i hj
          cases hs
          obtain ⟨a, e1, e2⟩ := h2
          exact ⟨v, h1, a, by rw [List.getElem?_take_of_lt hj]; exact e1, e2⟩
        · cases hs
  · have z' : (e.st.take m)[j]? = some (some ob) := z
    have hj : j < m := by
      have := (List.getElem?_eq_some_iff.mp z').1
      rw [List.length_take] at this
      omega
    rw [List.getElem?_take_of_lt hj] at z'
    obtain ⟨a, h1, h2, h3⟩ := r.store j ob z'
    refine ⟨a, by rw [List.getElem?_take_of_lt hj]; exact h1, h2, h3.noMo ?_⟩
    cases q : isMo (some ob) with
    | false => rfl
    | true => exact absurd (List.any_eq_true.mpr ⟨_, List.mem_of_getElem? z', q⟩) hmo
def wlW (c : VTT) (tb : VTS) (n : Nat) : Nat → VEnds → En → Prop
  | 0, _, _ => False
  | m + 1, D, e => c e fun b e1 => if b = true then tb { D with nx := fun e' => ∃ q fs, n ≤ q ∧ wlW c tb n m D (e'.wk q fs), ct := fun e' => ∃ q fs, n ≤ q ∧ wlW c tb n m D (e'.wk q fs), bk := D.nx } e1 else D.nx e1
def vWhileW (c : VTT) (tb : VTS) : VTS := fun D e => ∃ m, wlW c tb e.st.length m D e
theorem vs_whileW {X : Cx} {pos : Pos} {c : Expr} {body : List Stmt} {tc : VTT} {tb : VTS} (hp : PassesOwn (model X.prog X.w) X.A X.env X.xe) (hc : VT X c tc) (hb : VSs X body tb) : VS X (.While c body [] pos) (vWhileW tc tb) := PS.imp (ps_while hp hc hb) fun D σ H h => by
  obtain ⟨R, F, A, e, DV, rep, ⟨m, k⟩, fin⟩ := h
  refine ⟨fun m σ' H' => ∃ F' A' e', Le F F' ∧ A <+: A' ∧ Rep X.K R F' A' σ' H' e' ∧ wlW tc tb e.st.length m DV e', ⟨m, F, A, e, Le.refl F, pfx_refl A, rep, k⟩, ?_⟩
  rintro m σ' H' ⟨F', A', e', l, p, rep', k⟩
  cases m with
  | zero => exact False.elim k
  | succ m =>
    refine ⟨R, F', A', e', _, rep', k, fun b e1 F1 A1 H1 k1 l1 p1 rep1 => ?_⟩
    cases b with
    | false => exact fin.nx _ _ _ _ _ k1 (l.trans l1) (p.trans p1) rep1
    | true =>
      have nxt : ∀ e2 σ2 F2 A2 H2, (∃ q fs, e.st.length ≤ q ∧ wlW tc tb e.st.length m DV (e2.wk q fs)) → Le F1 F2 → A1 <+: A2 → Rep X.K R F2 A2 σ2 H2 e2 → ∃ F' A' e', Le F F' ∧ A <+: A' ∧ Rep X.K R F' A' σ2 H2 e' ∧ wlW tc tb e.st.length m DV e' := fun e2 σ2 F2 A2 H2 ⟨q, fs, hq, k2⟩ l2 p2 rep2 => by
        obtain ⟨A3, p3, rep3⟩ := rep2.wk (A1 := A) (n := e.st.length) ((p.trans p1).trans p2) rep.lenA.symm q fs hq
        exact ⟨F2, A3, _, (l.trans l1).trans l2, p3, rep3, k2⟩
      refine ⟨fun σ2 H2 => ∃ F' A' e', Le F F' ∧ A <+: A' ∧ Rep X.K R F' A' σ2 H2 e' ∧ wlW tc tb e.st.length m DV e', fun σ2 H2 q => ⟨m, Nat.lt_succ_self m, q⟩, ?_⟩
      exact ⟨R, F1, A1, e1, _, rep1, k1, nxt, fun e2 σ2 F2 A2 H2 k2 l2 p2 rep2 => fin.nx _ _ _ _ _ k2 ((l.trans l1).trans l2) ((p.trans p1).trans p2) rep2, nxt, fun s e2 v σ2 F2 A2 H2 k2 l2 p2 rep2 a2 => fin.rt _ _ _ _ _ _ _ k2 ((l.trans l1).trans l2) ((p.trans p1).trans p2) rep2 a2, fin.ex.tr (l.trans l1) (p.trans p1)⟩
def flW (g : VTG) (tb : VTS) (chk : Option (En → Prop)) (n : Nat) : List D → VEnds → En → Prop
  | [], D, e => wth chk e (D.nx e)
  | d :: ds, D, e => wth chk e (g (.val d) e fun e1 => tb { D with nx := fun e' => ∃ q fs, n ≤ q ∧ flW g tb chk n ds D (e'.wk q fs), ct := fun e' => ∃ q fs, n ≤ q ∧ flW g tb chk n ds D (e'.wk q fs), bk := D.nx } e1)
def vForW (w : VTI) (g : VTG) (tb : VTS) : VTS := fun D e => w e fun ds chk e1 => flW g tb chk e1.st.length ds D e1
theorem vs_forW {X : Cx} {pos : Pos} {tg it : Expr} {body : List Stmt} {w : VTI} {g : VTG} {ws : List Nat} {tb : VTS} (hi : VI X tg it w) (hg : VG X tg ws g) (hb : VSs X body tb) (hp : ∀ {wi : TI} {tgg : TG} {tbb : TS}, PI X tg it wi → PG X tg tgg → PSs X body tbb → PS X (.For tg it body [] pos) (tFor wi tgg tbb)) :
    VS X (.For tg it body [] pos) (vForW w g tb) := PS.imp (hp hi hg hb) fun D σ H h => by
  obtain ⟨R, F, A, e, DV, rep, k, fin⟩ := h
  refine ⟨R, F, A, e, _, rep, k, fun ds chk e1 F1 A1 H1 J k1 l1 p1 rep1 it => ?_⟩
  refine ⟨fun i m σ' H' => ∃ F' A' e', m = ds.length - i ∧ i ≤ ds.length ∧ Le F1 F' ∧ A1 <+: A' ∧ Rep X.K R F' A' σ' H' e' ∧ flW g tb chk e1.st.length (ds.drop i) DV e', ⟨_, F1, A1, e1, rfl, Nat.zero_le _, Le.refl _, pfx_refl _, rep1, k1⟩, ?_⟩
  rintro i m σ' H' ⟨F', A', e', rfl, hi, l, p, rep', k⟩
  rcases Nat.lt_or_ge i ds.length with hlt | hge
  · right
    obtain ⟨d, hd⟩ : ∃ d, ds[i]? = some d := ⟨ds[i], by simp [hlt]⟩
    have hdr : ds.drop i = d :: ds.drop (i + 1) := by
      rw [List.drop_eq_getElem_cons hlt]
      rw [List.getElem?_eq_getElem hlt] at hd
      cases hd
      rfl
    rw [hdr] at k
    obtain ⟨kc, k⟩ := wth_ok k
    obtain ⟨g1, g2⟩ := it.go i d hd l p rep' kc
    have nxt : ∀ e2 σ2 F2 A2 H2, (∃ q fs, e1.st.length ≤ q ∧ flW g tb chk e1.st.length (ds.drop (i + 1)) DV (e2.wk q fs)) → Le F1 F2 → A1 <+: A2 → Rep X.K R F2 A2 σ2 H2 e2 → ∃ F' A' e', ds.length - (i + 1) = ds.length - (i + 1) ∧ i + 1 ≤ ds.length ∧ Le F1 F' ∧ A1 <+: A' ∧ Rep X.K R F' A' σ2 H2 e' ∧ flW g tb chk e1.st.length (ds.drop (i + 1)) DV e' := fun e2 σ2 F2 A2 H2 ⟨q, fs, hq, k2⟩ l2 p2 rep2 => by
      obtain ⟨A3, p3, rep3⟩ := rep2.wk (A1 := A1) (n := e1.st.length) p2 rep1.lenA.symm q fs hq
      exact ⟨F2, A3, _, rfl, hlt, l2, p3, rep3, k2⟩
    refine ⟨g1, fun σ2 H2 => ∃ F' A' e', ds.length - (i + 1) = ds.length - (i + 1) ∧ i + 1 ≤ ds.length ∧ Le F1 F' ∧ A1 <+: A' ∧ Rep X.K R F' A' σ2 H2 e' ∧ flW g tb chk e1.st.length (ds.drop (i + 1)) DV e', fun σ2 H2 q => ⟨ds.length - (i + 1), by omega, q⟩, fun x H3 y => ?_⟩
    obtain ⟨F3, l3, rep3, a3⟩ := g2 x H3 y
    refine ⟨R, F3, A', e', .val d, _, rep3, a3, k, fun e2 σ2 F2 A2 H2 k2 l2 p2 o2 rep2 => ⟨R, F2, A2, e2, _, rep2, k2, ?_⟩⟩
    have lf := (l.trans l3).trans l2
    have pf := p.trans p2
    exact ⟨fun e3 σ3 F4 A3 H4 k3 l4 p3 rep4 => nxt _ _ _ _ _ k3 (lf.trans l4) (pf.trans p3) rep4, fun e3 σ3 F4 A3 H4 k3 l4 p3 rep4 => fin.nx _ _ _ _ _ k3 (l1.trans (lf.trans l4)) (p1.trans (pf.trans p3)) rep4,
      fun e3 σ3 F4 A3 H4 k3 l4 p3 rep4 => nxt _ _ _ _ _ k3 (lf.trans l4) (pf.trans p3) rep4, fun s e3 v σ3 F4 A3 H4 k3 l4 p3 rep4 a4 => fin.rt _ _ _ _ _ _ _ k3 (l1.trans (lf.trans l4)) (p1.trans (pf.trans p3)) rep4 a4, fin.ex.tr (l1.trans lf) (p1.trans pf)⟩
  · left
    have e0 : i = ds.length := by omega
    subst e0
    rw [List.drop_length] at k
    obtain ⟨kc, k⟩ := wth_ok k
    exact ⟨it.stop l p rep' kc, fin.nx _ _ _ _ _ k (l1.trans l) (p1.trans p) rep'⟩
theorem fl_invW {α : Type} {g : VTG} {tb : VTS} {chk : Option (En → Prop)} {n : Nat} (enc : α → D) (xs : List α) {DV : VEnds} (I : List α → En → Prop) (hc : ∀ ys e, I ys e → okc chk e)
    (hs : ∀ (ys : List α) (x : α) (zs : List α) (e : En) (Nx : En → Prop), xs = ys ++ x :: zs → I ys e → (∀ e' q fs, n ≤ q → I (ys ++ [x]) (e'.wk q fs) → Nx e') → g (.val (enc x)) e fun e1 => tb { DV with nx := Nx, ct := Nx, bk := DV.nx } e1)
    (hd : ∀ e, I xs e → DV.nx e) {e : En} (h0 : I [] e) : flW g tb chk n (xs.map enc) DV e := by
  have wc : ∀ {e : En} {p : Prop}, okc chk e → p → wth chk e p := fun {e p} h q => by
    cases chk with
    | none => exact q
    | some c => exact ⟨h, q⟩
  suffices h : ∀ (zs ys : List α) (e : En), xs = ys ++ zs → I ys e → flW g tb chk n (zs.map enc) DV e from h xs [] e rfl h0
  intro zs
  induction zs with
  | nil =>
    intro ys e h hI
    rw [List.append_nil] at h
    subst h
    exact wc (hc _ _ hI) (hd e hI)
  | cons z zs ih =>
    intro ys e h hI
    exact wc (hc _ _ hI) (hs ys z zs e _ h hI fun e' q fs hq h' => ⟨q, fs, hq, ih (ys ++ [z]) _ (by rw [h]; simp) h'⟩)
theorem while_invW {c : VTT} {tb : VTS} {DV : VEnds} {e : En} (I : Nat → En → Prop)
    (hs : ∀ (m : Nat) (e' : En) (Nx : En → Prop), I m e' → (∀ m' e'' q fs, m' < m → e.st.length ≤ q → I m' (e''.wk q fs) → Nx e'') → c e' fun b e1 => if b = true then tb { DV with nx := Nx, ct := Nx, bk := DV.nx } e1 else DV.nx e1)
    {m : Nat} (h0 : I m e) : vWhileW c tb DV e := by
  suffices h : ∀ (f m : Nat) (e' : En), m < f → I m e' → wlW c tb e.st.length f DV e' from ⟨m + 1, h (m + 1) m e (Nat.lt_succ_self m) h0⟩
  intro f
  induction f with
  | zero => intro m e' h; omega
  | succ f ih => exact fun m e' h hI => hs m e' (fun e'' => ∃ q fs, e.st.length ≤ q ∧ wlW c tb e.st.length f DV (e''.wk q fs)) hI fun m' e'' q fs hm' hq h' => ⟨q, fs, hq, ih m' _ (by omega) h'⟩
def vStar (ta : VTE) (t : VTA) : VTA := fun e Kp => ta e fun s e1 => match pk s e1 with
  | some (.tuple ds) => t e1 fun ss e2 => Kp (ds.map .val ++ ss) e2
  | some (.list ds) => t e1 fun ss e2 => Kp (ds.map .val ++ ss) e2
  | _ => False
theorem SlAts.app {K : PySem.W.Frag} {F : Hp} {A : List Addr} {vs us : List V} {ss ts : List Sl} (h : SlAts K F A vs ss) (g : SlAts K F A us ts) : SlAts K F A (vs ++ us) (ss ++ ts) := by
  induction h with
  | nil => exact g
  | cons h _ ih => exact .cons h ih
end Vl
namespace Vl
open PySem L2 PySem.Spec PyProof.Rows
open Classical in
theorem call_core {K : PySem.W.Frag} {R F : Hp} {A : List Addr} {σ : L2.St} {H : Hp} {e : En} {vs : List V} {ss : List Sl} {cs : List Ob} (rep : Rep K R F A σ H e) (ats : SlAts K F A vs ss) (hu : uniq (objs ss) = true) (hg : getS (objs ss) e.st = some cs) :
    ∃ Rc Ap, Rep K Rc F Ap (vs.map some) H ⟨(renum 0 ss).map some, cs.map some⟩ ∧ ∀ (s : Sl) (cs' : List Ob) (v : V) (F' : Hp) (A' : List Addr) (H' : Hp), Le F F' → Ap <+: A' → Rep K Rc F' A' [some v] H' ⟨[some s], cs'.map some⟩ → ¬ cs'.any mob = true →
      Rep K R F' A σ H' ⟨e.sl, putS (objs ss) cs' e.st⟩ ∧ ∀ {own : Ob → En → KE → Prop} {Kp : KE} {Q : VK}, FinW K own → Fin K R F A σ Kp Q → (match s with
        | .val d => Kp (.val d) ⟨e.sl, putS (objs ss) cs' e.st⟩
        | .kn ds => Kp (.kn ds) ⟨e.sl, putS (objs ss) cs' e.st⟩
        | .exc _ => False
        | .obj j => if j < (objs ss).length then False else match cs'[j]? with
          | some ob => own ob ⟨e.sl, putS (objs ss) cs' e.st⟩ Kp
          | none => False) → Q v H' := by
  have nd := uniq_nodup hu
  obtain ⟨gl, ga⟩ := getS_at hg
  -- the addresses of what is handed in
  have hA : ∀ (k j : Nat), (objs ss)[k]? = some j → ∃ a ds, A[j]? = some a ∧ cs[k]? = some ds ∧ F a = none ∧ ObAt K F A (H a) ds ∧ mob ds = false := fun k j hj => by
    obtain ⟨ds, h1, h2, hm⟩ := ga k j hj
    obtain ⟨a, q1, q2, q3⟩ := rep.store j ds h2
    exact ⟨a, ds, q1, h1, q2, q3, hm⟩
  let Ap : List Addr := (objs ss).map fun j => (A[j]?).getD 0
  have hAp : ∀ (k j : Nat) (a : Addr), (objs ss)[k]? = some j → A[j]? = some a → Ap[k]? = some a := fun k j a h1 h2 => by
    show ((objs ss).map fun j => (A[j]?).getD 0)[k]? = _
    rw [List.getElem?_map, h1]
    simp [h2]
  have hAp' : ∀ (k : Nat) (a : Addr), Ap[k]? = some a → ∃ j, (objs ss)[k]? = some j ∧ A[j]? = some a := fun k a h => by
    have h' : ((objs ss).map fun j => (A[j]?).getD 0)[k]? = some a := h
    rw [List.getElem?_map] at h'
    obtain ⟨j, h1, h2⟩ := Option.map_eq_some_iff.mp h'
    obtain ⟨b, _, q1, _⟩ := hA k j h1
    rw [q1] at h2
    simp at h2
    exact ⟨j, h1, by rw [q1, h2]⟩
  have hApl : Ap.length = (objs ss).length := List.length_map _
  have hsub : ∀ a ∈ Ap, a ∈ A := fun a ha => by
    obtain ⟨k, hk⟩ := List.getElem?_of_mem ha
    obtain ⟨j, _, h2⟩ := hAp' k a hk
    exact List.mem_of_getElem? h2
  have hApn : Ap.Nodup := by
    show ((objs ss).map fun j => (A[j]?).getD 0).Nodup
    refine List.pairwise_map.mpr (List.Pairwise.imp_of_mem (fun {i j} hi hj hne q => ?_) nd)
    obtain ⟨ki, hki⟩ := List.getElem?_of_mem hi
    obtain ⟨kj, hkj⟩ := List.getElem?_of_mem hj
    obtain ⟨a, _, q1, _⟩ := hA ki i hki
    obtain ⟨b, _, q2, _⟩ := hA kj j hkj
    rw [q1, q2] at q
    have q' : a = b := q
    subst q'
    exact hne (nodup_at rep.nodup q1 q2)
  let Rc : Hp := fun a => if (F a).isSome = true ∨ a ∈ Ap ∨ TbK K a then none else H a
  have hRc : ∀ {a : Addr} {o : HO}, Rc a = some o → F a = none ∧ a ∉ Ap ∧ H a = some o := fun {a o} h => by
    have h' : (if (F a).isSome = true ∨ a ∈ Ap ∨ TbK K a then none else H a) = some o := h
    split at h'
    · cases h'
    · rename_i q
      refine ⟨?_, fun z => q (.inr (.inl z)), h'⟩
      cases hf : F a with
      | none => rfl
      | some u => exact absurd (.inl (by simp [hf])) q
  have hRc' : ∀ {a : Addr} {o : HO}, F a = none → a ∉ Ap → ¬ TbK K a → H a = some o → Rc a = some o := fun {a o} h1 h2 h4 h3 => by
    show (if (F a).isSome = true ∨ a ∈ Ap ∨ TbK K a then none else H a) = some o
    rw [if_neg]
    · exact h3
    · rintro (z | z | z)
      · rw [h1] at z
        cases z
      · exact h2 z
      · exact h4 z
  have noA : ∀ {a : Addr}, a ∈ A → ¬ TbK K a := fun {a} ha z => (rep.tabs.of a z).2.2.2 ha
  have noR : ∀ {a : Addr} {o : HO}, R a = some o → ¬ TbK K a := fun {a o} h z => by
    rw [(rep.tabs.of a z).2.2.1] at h
    cases h
  have tabc : Tbs K Rc F H Ap := ⟨fun P hP => by
    obtain ⟨h1, h2, h3, h4⟩ := rep.tabs.of P hP
    refine ⟨h1, h2, ?_, fun z => h4 (hsub P z)⟩
    show (if (F P).isSome = true ∨ P ∈ Ap ∨ TbK K P then none else H P) = none
    rw [if_pos (.inr (.inr hP))]⟩
  have ren := renum_at (Ap := Ap) (k := 0) ats (fun m j hm a ha => by rw [Nat.zero_add]; exact hAp m j a hm ha)
  have repc : Rep K Rc F Ap (vs.map some) H ⟨(renum 0 ss).map some, cs.map some⟩ := by
    refine ⟨rep.sub, fun a o z => (hRc z).2.2, fun a o z => ⟨(hRc z).1, (hRc z).2.1⟩, ?_, ?_, hApn, fun a ha => rep.live a (hsub a ha), fun i s z => ?_, fun j ds z => ?_, tabc⟩
    · simp [ren.len]
    · simp [gl, hApl]
    · have z' : ((renum 0 ss).map some)[i]? = some (some s) := z
      rw [List.getElem?_map] at z'
      obtain ⟨t, ht, hs⟩ := Option.map_eq_some_iff.mp z'
      cases hs
      obtain ⟨v, h1, h2⟩ := slAts_get ren ht
      exact ⟨v, by rw [List.getElem?_map, h1] <;> rfl, h2⟩
    · have z' : (cs.map some)[j]? = some (some ds) := z
      rw [List.getElem?_map] at z'
      obtain ⟨t, ht, hs⟩ := Option.map_eq_some_iff.mp z'
      cases hs
      have hj : j < (objs ss).length := by
        have := (List.getElem?_eq_some_iff.mp ht).1
        omega
      obtain ⟨i, hi⟩ : ∃ i, (objs ss)[j]? = some i := ⟨(objs ss)[j], by simp [hj]⟩
      obtain ⟨a, ds', q1, q2, q3, q4, q5⟩ := hA j i hi
      rw [ht] at q2
      cases q2
      exact ⟨a, hAp j i a hi q1, q3, q4.noM q5⟩
  refine ⟨Rc, Ap, repc, fun s cs' v F' A' H' l p rep' hall => ?_⟩
  have mobs : ∀ (i : Nat) (ob : Ob), cs'[i]? = some ob → mob ob = false := fun i ob h => by
    cases q : mob ob with
    | false => rfl
    | true => exact absurd (List.any_eq_true.mpr ⟨ob, List.mem_of_getElem? h, q⟩) hall
  have hR : ∀ {a : Addr} {o : HO}, R a = some o → Rc a = some o := fun {a o} z => hRc' (rep.apart a o z).1 (fun hm => (rep.apart a o z).2 (hsub a hm)) (noR z) (rep.keep a o z)
  have hA' : ∀ {k : Nat}, k < Ap.length → A'[k]? = Ap[k]? := fun {k} hk => by
    obtain ⟨t, rfl⟩ := p
    rw [List.getElem?_append_left hk]
  have hApA' : ∀ a ∈ Ap, a ∈ A' := fun a ha => p.subset ha
  have lc : cs'.length = A'.length := by
    have := rep'.lenA
    simpa using this
  -- the caller's state behind the call
  have back : Rep K R F' A σ H' ⟨e.sl, putS (objs ss) cs' e.st⟩ := by
    refine ⟨rep'.sub, fun a o z => rep'.keep a o (hR z), fun a o z => ⟨(rep'.apart a o (hR z)).1, (rep.apart a o z).2⟩, rep.len, by rw [putS_len]; exact rep.lenA, rep.nodup, fun a ha => ?_, fun i t z => ?_, fun j ds z => ?_, ⟨fun P hP => ⟨(rep'.tabs.of P hP).1, (rep'.tabs.of P hP).2.1, (rep.tabs.of P hP).2.2⟩⟩⟩
    · obtain ⟨o, ho⟩ := rep.live a ha
      cases hf : F a with
      | some u => exact ⟨u, rep'.sub _ _ (l _ _ hf)⟩
      | none =>
        by_cases hm : a ∈ Ap
        · exact rep'.live a (hApA' a hm)
        · exact ⟨o, rep'.keep _ _ (hRc' hf hm (noA ha) ho)⟩
    · obtain ⟨u, h1, h2⟩ := rep.slot i t z
      exact ⟨u, h1, h2.le l (pfx_refl A)⟩
    · rcases putS_at z nd with ⟨m, c, h1, h2, h3⟩ | ⟨h1, h2⟩
      · cases h3
        obtain ⟨a, ds', q1, q2, q3, q4, q5⟩ := hA m j h1
        obtain ⟨b, r1, r2, r3⟩ := rep'.store m ds (by rw [List.getElem?_map, h2] <;> rfl)
        have hm : m < Ap.length := by
          rw [hApl]
          exact (List.getElem?_eq_some_iff.mp h1).1
        rw [hA' hm, hAp m j a h1 q1] at r1
        cases r1
        exact ⟨a, q1, r2, r3.noM (mobs m ds h2)⟩
      · obtain ⟨a, q1, q2, q3⟩ := rep.store j ds h2
        have na : a ∉ Ap := fun hm => by
          obtain ⟨m, hm⟩ := List.getElem?_of_mem hm
          obtain ⟨j', r1, r2⟩ := hAp' m a hm
          have := nodup_at rep.nodup r2 q1
          subst this
          have hml : m < Ap.length := (List.getElem?_eq_some_iff.mp hm).1
          have := h1 m r1
          have h5 : Ap.length ≤ A'.length := p.length_le
          rw [List.getElem?_eq_none_iff] at this
          omega
        obtain ⟨o, ho⟩ := q3.some
        have zc := hRc' q2 na (noA (List.mem_of_getElem? q1)) ho
        exact ⟨a, q1, (rep'.apart a _ zc).1, q3.le l (pfx_refl A) fun u e => by
          rw [ho] at e
          cases e
          exact rep'.keep _ _ zc⟩
  refine ⟨back, fun {own Kp Q} hw fin k => ?_⟩
  have fin' := fin.tr l (pfx_refl A)
  obtain ⟨v', hv', av⟩ := rep'.slot 0 s rfl
  have ev : some v = some v' := by simpa using hv'
  cases ev
  cases s with
  | val d => exact fin'.done back (s := .val d) k av
  | kn ds => exact fin'.done back (s := .kn ds) k av
  | exc d => exact k.elim
  | obj j =>
    replace k : (if j < (objs ss).length then False else match cs'[j]? with | some ds => own ds ⟨e.sl, putS (objs ss) cs' e.st⟩ Kp | none => False) := k
    split at k
    · exact k.elim
    · rename_i hj
      split at k
      · rename_i ds hd
        obtain ⟨b, e1, rfl⟩ := av
        obtain ⟨b', r1, r2, r3⟩ := rep'.store j ds (by rw [List.getElem?_map, hd] <;> rfl)
        rw [e1] at r1
        cases r1
        obtain ⟨o, ho⟩ := r3.some
        have nb : b ∉ Ap := fun hm => by
          obtain ⟨m, hm⟩ := List.getElem?_of_mem hm
          have hml : m < Ap.length := (List.getElem?_eq_some_iff.mp hm).1
          rw [← hA' hml] at hm
          have := nodup_at rep'.nodup hm e1
          omega
        have hbF : F b = none := by
          cases hf : F b with
          | none => rfl
          | some u =>
            rw [l _ _ hf] at r2
            cases r2
        have hH : H b = none := by
          cases hh : H b with
          | none => rfl
          | some u => exact absurd (List.mem_of_getElem? e1) (rep'.apart b u (hRc' hbF nb (fun z => (rep'.tabs.of b z).2.2.2 (List.mem_of_getElem? e1)) hh)).2
        exact hw back r2 (rep.keep.free hH) (fun hm => by
          obtain ⟨u, hu⟩ := rep.live b hm
          rw [hH] at hu
          cases hu) ho (by rw [← ho]; exact r3.noM (mobs j ds hd)) (mobs j ds hd) k fin'
      · exact k.elim
abbrev VSx := List Sl → List Ob → (Sl → List Ob → Prop) → (Xv → List Ob → Prop) → Prop
def spX (K : PySem.W.Frag) (mg : Str → Option Value) (p : VSx) : Sp := fun vs H Q E => ∃ R F A ss st Kp Ep, Rep K R F A (vs.map some) H ⟨ss.map some, st.map some⟩ ∧ p ss st Kp Ep ∧
  (∀ s st' v F' A' H', Kp s st' → Le F F' → A <+: A' → Rep K R F' A' [some v] H' ⟨[some s], st'.map some⟩ → Q v H') ∧
  (∀ x st' F' A' H' cls d, Ep x st' → Le F F' → A <+: A' → Rep K R F' A' [some .non] H' ⟨[some (.val .none)], st'.map some⟩ → XAt K mg F' H' x cls d → E cls d H')
def retX (n : Nat) (x : Xv) (e : En) (Ep : Xv → List Ob → Prop) : Prop := match takeS n e.st with
  | none => False
  | some st' => Ep x st'
def dX (n : Nat) (Kp : Sl → List Ob → Prop) (Ep : Xv → List Ob → Prop) : VEnds := { nx := fun e => ret n (.val .none) e Kp, rt := fun s e => ret n s e Kp, ex := fun x e => retX n x e Ep }
theorem dX_nx (n Kp Ep e) : (dX n Kp Ep).nx e = ret n (.val .none) e Kp := rfl
theorem dX_rt (n Kp Ep s e) : (dX n Kp Ep).rt s e = ret n s e Kp := rfl
theorem dX_ex (n Kp Ep x e) : (dX n Kp Ep).ex x e = retX n x e Ep := rfl
theorem retX_ok {K : PySem.W.Frag} {mg : Str → Option Value} {R F : Hp} {A : List Addr} {σ : L2.St} {H : Hp} {e : En} {F0 : Hp} {A0 : List Addr} {n : Nat} {x : Xv} {Ep : Xv → List Ob → Prop} {E : XK} {cls : Value} {d : Option Addr} (rep : Rep K R F A σ H e) (hn : A0.length = n) (l : Le F0 F) (p : A0 <+: A) (k : retX n x e Ep) (xa : XAt K mg F H x cls d)
    (fin : ∀ x st' F' A' H' cls d, Ep x st' → Le F0 F' → A0 <+: A' → Rep K R F' A' [some .non] H' ⟨[some (.val .none)], st'.map some⟩ → XAt K mg F' H' x cls d → E cls d H') : E cls d H := by
  unfold retX at k
  split at k
  · exact k.elim
  · rename_i st' hst
    have hl := takeS_len hst
    have hA0 : ∀ {j : Nat}, j < n → A0[j]? = A[j]? := fun {j} hj => by
      obtain ⟨t, rfl⟩ := p
      rw [List.getElem?_append_left (by omega)]
    have mem : ∀ a ∈ A0, a ∈ A := fun a ha => p.subset ha
    refine fin x st' F A0 H cls d k l (pfx_refl A0) ⟨rep.sub, rep.keep, fun a o z => ⟨(rep.apart a o z).1, fun hm => (rep.apart a o z).2 (mem a hm)⟩, rfl, by simp [hl, hn], p.sublist.nodup rep.nodup, fun a ha => rep.live a (mem a ha), fun i u hu => ?_, fun j ds hj => ?_, rep.tabs.sub mem⟩ xa
    · cases i with
      | zero =>
        have hu' : some (some (Sl.val .none)) = some (some u) := hu
        cases hu'
        exact ⟨.non, rfl, .non⟩
      | succ i => simp at hu
    · have hj' : (st'.map some)[j]? = some (some ds) := hj
      rw [List.getElem?_map] at hj'
      obtain ⟨c, hc, ec⟩ := Option.map_eq_some_iff.mp hj'
      cases ec
      obtain ⟨hs, hm⟩ := takeS_at hst hc
      obtain ⟨b, h1, h2, h3⟩ := rep.store j _ hs
      have hjn : j < n := by
        have := (List.getElem?_eq_some_iff.mp hc).1
        omega
      exact ⟨b, by rw [hA0 hjn]; exact h1, h2, h3.noM hm⟩
structure VFx (P : Program) (w : World) (K : PySem.W.Frag) (mg : Str → Option Value) (base : Heap) (k : Nat) (x : Str) (ps : List Str) (p : VSx) : Prop where
  ex : ∃ f fd, FnOk P w K mg base (L2.CX P w) k f fd ps (spX K mg p) ∧ PySem.W.keepIn K (.ref f) = true ∧ Binds K fd ps [] ∧ mg x = some (.ref f)
theorem VFx.mono {P : Program} {w : World} {K : PySem.W.Frag} {mg : Str → Option Value} {base : Heap} {j k : Nat} {x : Str} {ps : List Str} {p : VSx} (h : VFx P w K mg base j x ps p) (l : j ≤ k) : VFx P w K mg base k x ps p := by
  obtain ⟨f, fd, a, b, c, d⟩ := h.ex
  exact ⟨f, fd, a.mono l, b, c, d⟩
section
variable {P : Program} {w : World} {K : PySem.W.Frag} {mg : Str → Option Value} {base : Heap}
theorem okVX {x qual : Str} {st : Stmt} {f : Addr} {fd : FuncData} {N ps : List Str} {k : Nat} {p : VSx} (F : Fun K x qual st f fd) (S : FnScope N ps (defScope st)) (len : ∀ ss st Kp Ep, p ss st Kp Ep → ss.length = ps.length)
    (hbody : ∀ (cdv : Value) (A : Around) (outer : List Env) (s : Shared) (H : Hp) (E : XK), Room k (A.deeper (envOfC qual (defScope st) s.heap.objs.size f cdv)) →
      ∃ t, VSs (cxOf (L2.CX P w) P w K mg base N qual (defScope st) f cdv A outer s H E) (defBody st) t ∧
        ∀ ss cs Kp Ep, p ss cs Kp Ep → t (dX cs.length Kp Ep) ⟨startV N.length ss, cs.map some⟩) : FnOk P w K mg base (L2.CX P w) (k + 1) f fd ps (spX K mg p) := by
  have lenV : ∀ vs H Q E, spX K mg p vs H Q E → vs.length = ps.length := fun vs H Q E h => by
    obtain ⟨R, F, A, ss, st, Kp, Ep, rep, hp, _⟩ := h
    have := rep.len
    simp at this
    rw [← this]
    exact len _ _ _ _ hp
  refine F.okX S lenV fun cdv A outer s H vs Q E hr h => ?_
  obtain ⟨t, ht, hb⟩ := hbody cdv A outer s H E hr
  obtain ⟨R, F0, A0, ss, cs, Kp, Ep, rep, hp, fin, finx⟩ := h
  have hl := rep.len
  simp at hl
  refine ⟨_, ht, R, F0, A0, ⟨startV N.length ss, cs.map some⟩, dX cs.length Kp Ep, ?_, hb ss cs Kp Ep hp, ?_⟩
  · refine rep.weak ?_ fun i u hu => ?_
    · show (ss.map some ++ List.replicate (N.length - ss.length) none).length = (vs.map some ++ List.replicate (N.length - vs.length) none).length
      simp only [List.length_append, List.length_map, List.length_replicate, hl]
    · replace hu : (ss.map some ++ List.replicate (N.length - ss.length) none)[i]? = some (some u) := hu
      rcases Nat.lt_or_ge i (ss.map some).length with hi | hi
      · rw [List.getElem?_append_left hi] at hu
        obtain ⟨v, h1, h2⟩ := rep.slot i u hu
        refine ⟨v, ?_, h2⟩
        show (vs.map some ++ List.replicate (N.length - vs.length) none)[i]? = _
        rw [List.getElem?_append_left (by rw [List.length_map] at hi ⊢; omega)]
        exact h1
      · rw [List.getElem?_append_right hi] at hu
        have := List.mem_of_getElem? hu
        have := (List.mem_replicate.mp this).2
        cases this
  · have hn : A0.length = cs.length := by
      have := rep.lenA
      simp at this
      exact this.symm
    refine ⟨fun e' σ' F' A' H' k l p r => ret_ok r (s := .val .none) (v := .non) .non hn l p k fin, fun _ _ _ _ _ k => k.elim, fun _ _ _ _ _ k => k.elim, fun s e' v σ' F' A' H' k l p r a => ret_ok r a hn l p k fin, fun cls d _ H' => E cls d H', takes_of rfl rfl rfl rfl, ?_⟩
    intro x e' cls d σ' F' A' H' k l p r xa
    exact retX_ok r hn l p k xa finx
theorem okFX {x : Str} {st : Stmt} {N ps : List Str} {k : Nat} {p : VSx} {t : VTS} (Fd : Df K mg x st ps) (S : FnScope N ps (defScope st)) (len : ∀ ss st Kp Ep, p ss st Kp Ep → ss.length = ps.length)
    (hb : ∀ {f : Addr} {cdv : Value} {A : Around} {outer : List Env} {s : Shared} {H : Hp} {E : XK}, Room k (A.deeper (envOfC x (defScope st) s.heap.objs.size f cdv)) → VSs (cxOf (L2.CX P w) P w K mg base N x (defScope st) f cdv A outer s H E) (defBody st) t)
    (rd : ∀ ss cs Kp Ep, p ss cs Kp Ep → t (dX cs.length Kp Ep) ⟨startV N.length ss, cs.map some⟩) : VFx P w K mg base (k + 1) x ps p := by
  obtain ⟨f, fd, F, b, g⟩ := Fd.ex
  exact ⟨f, fd, okVX F S len fun cdv A outer s H E hr => ⟨t, hb hr, rd⟩, F.kp, b, g⟩
end
abbrev VTEx := En → KE → (Xv → En → Prop) → Prop
def liftX (X : Cx) (t : VTEx) : TE := fun σ H Q => ∃ R F A e Kp Ep, Rep X.K R F A σ H e ∧ t e Kp Ep ∧ Fin X.K R F A σ Kp Q ∧ FinX X R F A Ep
def VX (X : Cx) (ex : Expr) (t : VTEx) : Prop := PE X ex (liftX X t)
def xCallK (own : Ob → En → KE → Prop) (p : VSx) (ss : List Sl) (e : En) (Kp : KE) (Ep : Xv → En → Prop) : Prop := match uniq (objs ss), getS (objs ss) e.st with
  | true, some cs => p (renum 0 ss) cs (fun s cs' => if cs'.any mob = true then False else match s with
    | .val d => Kp (.val d) ⟨e.sl, putS (objs ss) cs' e.st⟩
    | .kn ds => Kp (.kn ds) ⟨e.sl, putS (objs ss) cs' e.st⟩
    | .exc _ => False
    | .obj j => if j < (objs ss).length then False else match cs'[j]? with
      | some ob => own ob ⟨e.sl, putS (objs ss) cs' e.st⟩ Kp
      | none => False) fun x cs' => if cs'.any mob = true then False else Ep x ⟨e.sl, putS (objs ss) cs' e.st⟩
  | _, _ => False
def xN (op : List Sl → En → KE → (Xv → En → Prop) → Prop) (t : VTA) : VTEx := fun e Kp Ep => t e fun ss e1 => op ss e1 Kp Ep
section
variable {X : Cx} {x : Str} {ps : List Str} {k j : Nat} {p : VSx} {pp pos : Pos} {ex : Expr} {es : List Expr} {t : VTA}
theorem vx_call {own : Ob → En → KE → Prop} (hw : FinW X.K own) (G : VFx X.prog X.w X.K X.mg X.base k x ps p) (hr : Room j X.A) (hk : k ≤ j) (hg : Gl X x)
    (ha : VA X (ex :: es) t) (hdb : (x == ("__debug__" : Str)) = false := by decide) (he : starEach (ex :: es) X.env = (false, eval ex X.env) :: starEach es X.env := by rfl) (hpl : (backTo pos (starEach es X.env)).any (·.1) = false := by rfl) :
    VX X (.Call (.Name x pp) (ex :: es) [] pos) (xN (xCallK own p) t) := by
  obtain ⟨f, fd, h1, h2, h3, h4⟩ := G.ex
  refine ⟨fun pins s σ H Q I h => ?_⟩
  obtain ⟨R, F, A, e, Kp, Ep, rep, ht, fin, W, tk, finx⟩ := h
  refine (pe_callS (E := WE W) h1 (hr.mono hk) hg h4 h2 h3 (fun σ => passAt tk σ) ha hdb he hpl).run pins s σ H Q I ?_
  refine ⟨R, F, A, e, _, rep, ht, fun ss e1 vs F1 A1 H1 k1 l1 p1 rep1 ats => ?_⟩
  unfold xCallK at k1
  split at k1
  · rename_i cs hu hg
    obtain ⟨Rc, Ap, repc, back⟩ := call_core rep1 ats hu hg
    refine ⟨Rc, F1, Ap, renum 0 ss, cs, _, _, repc, k1, fun s cs' v F' A' H' k l p rep' => ?_, fun x cs' F' A' H' cls d k l p rep' xa => ?_⟩
    · split at k
      · exact k.elim
      · rename_i hall
        exact (back s cs' v F' A' H' l p rep' hall).2 hw (fin.tr l1 p1) k
    · split at k
      · exact k.elim
      · rename_i hall
        exact finx x _ cls d σ F' A1 H' k (l1.trans l) p1 (back _ cs' _ F' A' H' l p rep' hall).1 xa
  · exact k1.elim
end
section
variable {X : Cx} {pos : Pos}
def xRet (t : VTEx) : VTS := fun D e => t e D.rt D.ex
def xDrop (t : VTEx) : VTS := fun D e => t e (fun _ e1 => D.nx e1) D.ex
def xSet (i : Nat) (t : VTEx) : VTS := fun D e => t e (fun s e1 => D.nx ⟨e1.sl.set i (some s), e1.st⟩) D.ex
theorem xs_set {i : Nat} {x : Str} {ex : Expr} {t : VTEx} {pos' : Pos} (hN : X.N.Nodup) (hi : X.N[i]? = some x) (hx : Loc X.env.scope x) (he : VX X ex t) (hs : swapsWith ex (some (.Name x pos')) pos.line X.env = pure false := by rfl) (hf : X.fn x = true ∨ X.env.scope.names.lookup x = some .local := by first | exact .inl rfl | exact .inr rfl | assumption) :
    VS X (.Assign [.Name x pos'] ex pos) (xSet i t) := PS.imp (ps_set hN hi hx he hs hf) fun D σ H h => by
  obtain ⟨R, F, A, e, DV, rep, k, fin⟩ := h
  exact ⟨R, F, A, e, _, _, rep, k, fun s e1 v F1 A1 H1 k1 l1 p1 rep1 a1 => fin.nx _ _ _ _ _ k1 l1 p1 (rep1.put a1), fin.ex⟩
def xAsg (t : VTEx) (g : VTG) : VTS := fun D e => t e (fun s e1 => g s e1 D.nx) D.ex
end
/-- a class of refusals -/
structure XCl (K : PySem.W.Frag) (mg : Str → Option Value) (C : Str) : Prop where
  ex : ∃ a, mg C = some (.ref a) ∧ PySem.W.excIn K a [.type "ValueError", .type "Exception", .type "BaseException", .type "object"] "ValueError.__new__" = true ∧ PySem.W.keepIn K (.ref a) = true ∧ PySem.W.subIn K (.ref a) (.type "BaseException") = some true ∧ PySem.W.typeIn K (.ref a) = some (.type "type")
def vRaise (C : Str) : VTS := fun D e => D.ex ⟨C, []⟩ e
theorem vs_raise {X : Cx} {C m : Str} {j : Nat} {p p2 pos pos' : Pos} (hc : X.calm = true) (B : XCl X.K X.mg C) (hg : Gl X C) (hdb : (C == ("__debug__" : Str)) = false := by decide) : VS X (.Raise (some (.Call (.Name C p) [.Constant (.str m) j p2] [] pos)) none pos') (vRaise C) := by
  obtain ⟨a, gC, xC, kC, bC, tC⟩ := B.ex
  refine ⟨fun pins s σ H D I h => ?_⟩
  obtain ⟨R, F, A, e, DV, rep, k, fin⟩ := h
  obtain ⟨W, tk, fx⟩ := fin.ex
  exact (ps_raise hc tk (pmk_own PySem.F.excBase_ValueError xC gC kC (raises_own bC tC) hg hdb)).run pins s σ H D I (fx ⟨C, []⟩ e (.ref a) none σ F A H k (Le.refl F) (pfx_refl A) rep ⟨gC, .inl ⟨rfl, rfl⟩⟩)
end Vl
namespace Vl
open PySem L2 PySem.Spec PyProof.Rows
def xsub (C1 C2 : Str) : Bool := C1 == C2 || C2 == ("KindError" : Str) || C2 == ("ValueError" : Str) || C2 == ("Exception" : Str)
/-- a class's name and what it stands for -/
def NmV (mg : Str → Option Value) (x : Str) (v : V) (c : Value) : Prop := ClsV v c ∧ (mg x = some c ∨ (mg x = none ∧ bootBuiltins x = some c ∧ x ≠ "__name__"))
structure XOf (K : PySem.W.Frag) (mg : Str → Option Value) (C1 : Str) (ds cs : List Str) : Prop where
  ex : ∃ a, mg C1 = some (.ref a) ∧ ExcC K a ∧ (∀ C2 ∈ ds, ∃ c, mg C2 = some c ∧ PySem.W.exmOne K (.ref a) c = some (xsub C1 C2)) ∧ (∀ C2 ∈ cs, ∃ v c, NmV mg C2 v c ∧ PySem.W.kitOne K (.ref a) c = some (xsub C1 C2))
structure FinN (K : PySem.W.Frag) (R F : Hp) (A : List Addr) (DV : VEnds) (D : Ends) : Prop where
  nx : ∀ e' σ' F' A' H', DV.nx e' → Le F F' → A <+: A' → Rep K R F' A' σ' H' e' → D.nx σ' H'
  bk : ∀ e' σ' F' A' H', DV.bk e' → Le F F' → A <+: A' → Rep K R F' A' σ' H' e' → D.bk σ' H'
  ct : ∀ e' σ' F' A' H', DV.ct e' → Le F F' → A <+: A' → Rep K R F' A' σ' H' e' → D.ct σ' H'
  rt : ∀ s e' v σ' F' A' H', DV.rt s e' → Le F F' → A <+: A' → Rep K R F' A' σ' H' e' → SlAt K F' A' v s → D.rt v H'
def liftW (X : Cx) (t : VTS) (W : WX) : TS := fun D σ H => ∃ R F A e DV, Rep X.K R F A σ H e ∧ t DV e ∧ FinN X.K R F A DV D ∧ ∀ x e' cls d σ' F' A' H', DV.ex x e' → Le F F' → A <+: A' → Rep X.K R F' A' σ' H' e' → XAt X.K X.mg F' H' x cls d → W cls d σ' H'
def liftH (X : Cx) (ks : List Str) (ts : Str → Addr → VTS) (a : Addr) (cls : Value) (d : Option Addr) : TS := fun D σ H => ∃ C R F A e DV, C ∈ ks ∧ X.mg C = some cls ∧ d = none ∧ Rep X.K R F A σ H e ∧ ts C a DV e ∧ FinN X.K R F A DV D ∧ DV.ex = fun _ _ => False
def vTryAs (ks : List Str) (Cc : Str) (i : Nat) (tb : VTS) (ts : Str → Addr → VTS) : VTS := fun D e => tb { D with ex := fun x e1 => x.C ∈ ks ∧ x.fs = [] ∧ (xsub x.C Cc = true → ∀ a, ts x.C a { nx := fun e2 => D.nx ⟨e2.sl.set i none, e2.st⟩, rt := D.rt, bk := fun e2 => D.bk ⟨e2.sl.set i none, e2.st⟩, ct := fun e2 => D.ct ⟨e2.sl.set i none, e2.st⟩ } ⟨e1.sl.set i (some (.exc a)), e1.st⟩) ∧
  (xsub x.C Cc = false → D.ex x e1) } e
def vTryOnly (ks : List Str) (Cc : Str) (tb : VTS) (ts : Str → Addr → VTS) : VTS := fun D e => tb { D with ex := fun x e1 => x.C ∈ ks ∧ x.fs = [] ∧ (xsub x.C Cc = true → ∀ a, ts x.C a { nx := D.nx, rt := D.rt, bk := D.bk, ct := D.ct } e1) ∧
  (xsub x.C Cc = false → D.ex x e1) } e
section
variable {X : Cx} {x n : Str} {i : Nat} {body suite : List Stmt} {b₀ : Stmt} {np pos pos' : Pos} {tb : VTS} {ts : Str → Addr → VTS} {ks ds cs : List Str}
theorem rep_none {K : PySem.W.Frag} {R F : Hp} {A : List Addr} {σ : L2.St} {H : Hp} {e : En} (r : Rep K R F A σ H e) (i : Nat) : Rep K R F A (σ.set i none) H ⟨e.sl.set i none, e.st⟩ := by
  refine r.weak (by simp [r.len]) fun k s z => ?_
  by_cases q : i = k
  · subst q
    rcases Nat.lt_or_ge i e.sl.length with h | h
    · rw [List.getElem?_set_self h] at z
      cases z
    · rw [List.getElem?_eq_none (by simpa using h)] at z
      cases z
  · rw [List.getElem?_set_ne q] at z
    obtain ⟨v, h1, h2⟩ := r.slot k s z
    exact ⟨v, by rw [List.getElem?_set_ne q]; exact h1, h2⟩
theorem hb_W (hb : ∀ (pn : List (Addr × Obj)) (xe : Value → Shared → Prop), PassesOwn (model X.prog X.w) X.A X.env xe → VSs (X.tr pn xe) body tb) (W : WX) (pn : List (Addr × Obj)) (xe : Value → Shared → Prop) (tk : Takes (X.tr pn xe) W) (hp : PassesOwn (model X.prog X.w) X.A X.env xe) : PSs (X.tr pn xe) body (liftW X tb W) :=
  PSs.imp (hb pn xe hp) fun D σ H ⟨R, F, A, e, DV, rep, k, f, fx⟩ => ⟨R, F, A, e, DV, rep, k, f.nx, f.bk, f.ct, f.rt, W, tk, fx⟩
theorem hs_H (hs : ∀ (C : Str) (D a : Addr) (oe : Obj) (pn : List (Addr × Obj)), C ∈ ks → X.mg C = some (.ref D) → Zc (.ref D) none oe → (∃ vs, oe.data = .fields vs) → VSs (X.suite a ((a, oe) :: pn)) (b₀ :: suite) (ts C a))
    (XT : ∀ C ∈ ks, XOf X.K X.mg C ds cs) (a : Addr) (oe : Obj) (cls : Value) (d : Option Addr) (pn : List (Addr × Obj)) (hz : Zc cls d oe) (hf : ∃ vs, oe.data = .fields vs) : PSs (X.suite a ((a, oe) :: pn)) (b₀ :: suite) (liftH X ks ts a cls d) := by
  refine ⟨fun pins s σ H D I h => ?_⟩
  obtain ⟨C, R, F, A, e, DV, hC, gC, rfl, rep, k, f, hx⟩ := h
  obtain ⟨q, g1, _⟩ := (XT C hC).ex
  rw [gC] at g1
  cases g1
  exact (hs C q a oe pn hC gC hz hf).run pins s σ H D I ⟨R, F, A, e, DV, rep, k, f.nx, f.bk, f.ct, f.rt, by rw [hx]; exact FinX.no⟩
theorem vs_tryAs (hs : X.stack = X.env :: X.outer) (hf : X.env.frame = some X.env.locals) (hN : X.N.Nodup) (hi : X.N[i]? = some n) (hln : X.env.kindOf n = some .local) (gx : Gl X x) (XT : ∀ C ∈ ks, XOf X.K X.mg C ds cs) (hx : x ∈ ds) (gE : ∃ c, X.mg x = some c)
    (hb : ∀ (pn : List (Addr × Obj)) (xe : Value → Shared → Prop), PassesOwn (model X.prog X.w) X.A X.env xe → VSs (X.tr pn xe) body tb)
    (hsu : ∀ (C : Str) (D a : Addr) (oe : Obj) (pn : List (Addr × Obj)), C ∈ ks → X.mg C = some (.ref D) → Zc (.ref D) none oe → (∃ vs, oe.data = .fields vs) → VSs (X.suite a ((a, oe) :: pn)) (b₀ :: suite) (ts C a)) (hdb : (x == ("__debug__" : Str)) = false := by decide) :
    VS X (.Try body [.ExceptHandler (some (.Name x np)) (some n) (b₀ :: suite) pos'] [] [] pos) (vTryAs ks x i tb ts) := by
  obtain ⟨c, gE⟩ := gE
  refine ⟨fun pins s σ H D I h => ?_⟩
  obtain ⟨R, F, A, e, DV, rep, k, fin⟩ := h
  obtain ⟨W, tk, fx⟩ := fin.ex
  refine (ps_try_as (c := c) (Wout := W) hs hf hN hi hln ⟨gx, hdb, .inl gE⟩ tk (tb := liftW X tb) (ts := liftH X ks ts) (hb_W hb) (hs_H hsu XT)).run pins s σ H D I ?_
  refine ⟨R, F, A, e, _, rep, k, ⟨fin.nx, fin.bk, fin.ct, fin.rt⟩, fun y e1 cls d σ1 F1 A1 H1 hy l1 p1 rep1 xa => ?_⟩
  obtain ⟨hk, hfs, hy, hyn⟩ := hy
  obtain ⟨q, g1, _, g3, _⟩ := (XT _ hk).ex
  obtain ⟨c', g4, g5⟩ := g3 x hx
  rw [gE] at g4
  cases g4
  have ec : cls = .ref q := by
    have := xa.1
    rw [g1] at this
    cases this
    rfl
  subst ec
  have ed : d = none := by
    exact xa.2.elim (fun h => h.2) fun h => absurd hfs h.1
  refine ⟨_, g5, fun hb1 a ha => ?_, fun hb1 => ?_⟩
  · replace hy := hy hb1
    refine ⟨y.C, R, F1, A1, _, _, hk, xa.1, ed, rep1.put (s := .exc a) (v := .ref a) rfl, hy a, ⟨fun e2 σ2 F2 A2 H2 k2 l2 p2 rep2 => ?_, fun e2 σ2 F2 A2 H2 k2 l2 p2 rep2 => ?_, fun e2 σ2 F2 A2 H2 k2 l2 p2 rep2 => ?_, fun s2 e2 v σ2 F2 A2 H2 k2 l2 p2 rep2 a2 => ?_⟩, rfl⟩
    · exact fin.nx _ _ _ _ _ k2 (l1.trans l2) (p1.trans p2) (rep_none rep2 i)
    · exact fin.bk _ _ _ _ _ k2 (l1.trans l2) (p1.trans p2) (rep_none rep2 i)
    · exact fin.ct _ _ _ _ _ k2 (l1.trans l2) (p1.trans p2) (rep_none rep2 i)
    · exact fin.rt _ _ _ _ _ _ _ k2 (l1.trans l2) (p1.trans p2) rep2 a2
  · exact fx _ _ _ _ _ _ _ _ (hyn hb1) l1 p1 rep1 xa
end
def vIsx (C1 : Str) (a : Addr) (i : Nat) (C2 : Str) : VTE := fun e Kp => e.sl[i]? = some (some (.exc a)) ∧ Kp (.val (.bool (xsub C1 C2))) e
def vIsxs (C1 : Str) (a : Addr) (i : Nat) (cs : List Str) : VTE := fun e Kp => e.sl[i]? = some (some (.exc a)) ∧ Kp (.val (.bool (cs.any (xsub C1)))) e
section
variable {X : Cx} {a D : Addr} {oe : Obj} {pn : List (Addr × Obj)} {C1 C2 n : Str} {ds cs : List Str} {i : Nat} {p q r pos : Pos}
theorem pe_nm {X : Cx} {x : Str} {v : V} {c : Value} {pos : Pos} (h : NmV X.mg x v c) (hg : Gl X x) (hd : (x == ("__debug__" : Str)) = false) : PE X (.Name x pos) (tC v) := by
  obtain ⟨hv, h⟩ := h
  have r : RelV v c := by cases hv <;> rfl
  rcases h with h | ⟨h1, h2, h3⟩
  · exact pe_glob hg h r hd
  · exact pe_bltn hg h1 h2 r h3 hd
theorem boot_isx : bootBuiltins "isinstance" = some (.builtin "isinstance") := by decide +kernel
theorem ve_isx (XO : XOf X.K X.mg C1 ds cs) (g1 : X.mg C1 = some (.ref D)) (hz : Zc (.ref D) none oe) (hf : ∃ vs, oe.data = .fields vs) (h2 : C2 ∈ cs) (hN : X.N[i]? = some n) (hv : Vis X.env.scope n) (hg : Gl X "isinstance") (hm : X.mg "isinstance" = none) (hg2 : Gl X C2)
    (hd : (n == ("__debug__" : Str)) = false := by decide) (hcd : (n == ("__classdict__" : Str)) = false := by decide) (hd2 : (C2 == ("__debug__" : Str)) = false := by decide) : VE (X.suite a ((a, oe) :: pn)) (.Call (.Name "isinstance" p) [.Name n q, .Name C2 r] [] pos) (vIsx C1 a i C2) := by
  obtain ⟨D', e1, hC, _, h4⟩ := XO.ex
  rw [g1] at e1
  cases e1
  obtain ⟨v, c, hn, hk⟩ := h4 C2 h2
  refine PE.imp (pe_callB (call_isE hC hz hf) hg hm boot_isx (pa_cons (pe_var hN hv hd hcd) (pa_cons (pe_nm (X := X.suite a ((a, oe) :: pn)) hn hg2 hd2) pa_nil))) fun σ H Q h => ?_
  obtain ⟨R, F, A, e, Kp, rep, ⟨hs, k⟩, fin⟩ := h
  obtain ⟨w, hw, ew⟩ := rep.slot i _ hs
  have ew' : w = .ref a := ew
  subst ew'
  exact ⟨_, hw, v, c, _, rfl, fun u hu => hn.1.eq hu, hk, fin.val rep k (.bl _)⟩
/-- names of classes in a row -/
inductive NmL (X : Cx) : List Expr → List Str → Prop
  | nil : NmL X [] []
  | cons {x : Str} {p : Pos} {es : List Expr} {xs : List Str} : Gl X x → (x == ("__debug__" : Str)) = false → NmL X es xs → NmL X (.Name x p :: es) (x :: xs)
theorem NmL.pa {X : Cx} {K : PySem.W.Frag} {D : Addr} {cs : List Str} (h4 : ∀ C2 ∈ cs, ∃ v c, NmV X.mg C2 v c ∧ PySem.W.kitOne K (.ref D) c = some (xsub C1 C2)) {es : List Expr} {xs : List Str} (h : NmL X es xs) (hs : ∀ x ∈ xs, x ∈ cs) :
    ∃ vs us, Paired ClsV vs us ∧ PySem.W.kitAny K (.ref D) us = some (xs.any (xsub C1)) ∧ vs.length = xs.length ∧ PA X es (fun _ H Q => Q vs H) := by
  induction h with
  | nil => exact ⟨[], [], .nil, rfl, rfl, pa_nil⟩
  | @cons x p es xs g d h ih =>
    obtain ⟨vs, us, i1, i2, i4, i3⟩ := ih fun y hy => hs y (List.mem_cons_of_mem _ hy)
    obtain ⟨v, c, hn, hk⟩ := h4 x (hs x List.mem_cons_self)
    refine ⟨v :: vs, c :: us, .cons hn.1 i1, ?_, by simp [i4], pa_cons (pe_nm hn g d) i3⟩
    unfold PySem.W.kitAny
    rw [hk, List.any_cons]
    cases q : xsub C1 x with
    | true => rfl
    | false => exact i2
end
end Vl
namespace Vl
open PySem L2 PySem.Spec PyProof.Rows
/-- where it refuses nothing -/
theorem VFx.pure {P : Program} {w : World} {K : PySem.W.Frag} {mg : Str → Option Value} {base : Heap} {k : Nat} {x : Str} {ps : List Str} {p : VSx} (h : VFx P w K mg base k x ps p) : VFn P w K mg base k x ps (fun ss st Kp => p ss st Kp fun _ _ => False) := by
  obtain ⟨f, fd, a, b, c, d⟩ := h.ex
  have imp : ∀ vs H Q E, spV K (fun ss st Kp => p ss st Kp fun _ _ => False) vs H Q E → spX K mg p vs H Q (fun _ _ _ => False) := fun vs H Q E ⟨R, F, A, ss, st, Kp, r, q, z⟩ => ⟨R, F, A, ss, st, Kp, _, r, q, z, fun _ _ _ _ _ _ _ k => k.elim⟩
  refine ⟨f, fd, ⟨fun vs H Q E h => a.len _ _ _ _ (imp _ _ _ _ h), fun B outer s H args us vs Q E hr e0 bt r h => ?_⟩, b, c, d⟩
  refine codeAny_mono (a.run B outer s H args us vs Q _ hr e0 bt r (imp _ _ _ _ h)) fun rr s' hq => ?_
  cases rr with
  | error e =>
    obtain ⟨_, _, _, _, _, _, _, _, _, _, _, _, z⟩ := hq
    exact z.elim
  | ok fl => cases fl <;> exact hq
end Vl
namespace Vl
open PySem L2 PySem.Spec PyProof.Rows
end Vl
namespace Vl
open PySem L2 PySem.Spec PyProof.Rows
end Vl
namespace Vl
open PySem L2
end Vl
namespace Vl
open PySem L2 PySem.Spec PyProof.Rows
abbrev Ky := L2.Key
def dKey : D → Option Ky
  | .int i => some (.inl i)
  | .str x => some (.inr x)
  | _ => none
def findK {α : Type} (kvs : List (Ky × α)) (k : Ky) : Option α := (kvs.find? fun kv => decide (kv.1 = k)).map (·.2)
def putM {α : Type} (kvs : List (Ky × α)) (k : Ky) (d : α) : List (Ky × α) :=
  if (kvs.any fun kv => decide (kv.1 = k)) = true then kvs.map (fun kv => if kv.1 = k then (kv.1, d) else kv) else kvs ++ [(k, d)]
section
variable {K : PySem.W.Frag} {F : Hp} {A : List Addr}
theorem findK_cons {α : Type} (p : Ky × α) (r : List (Ky × α)) (k : Ky) : findK (p :: r) k = if p.1 = k then some p.2 else findK r k := by
  unfold findK
  rw [List.find?_cons]
  by_cases h : p.1 = k
  · rw [if_pos h, decide_eq_true h]
    rfl
  · rw [if_neg h, decide_eq_false h]
theorem findK_any {α : Type} (k : Ky) : ∀ kvs : List (Ky × α), (kvs.any fun kv => decide (kv.1 = k)) = (findK kvs k).isSome
  | [] => rfl
  | p :: r => by
    rw [List.any_cons, findK_cons, findK_any k r]
    by_cases h : p.1 = k
    · rw [if_pos h, decide_eq_true h]
      rfl
    · rw [if_neg h, decide_eq_false h, Bool.false_or]
theorem KvAt.val {kvs : List (Ky × D)} {vs : List (Ky × V)} (h : KvAt K F kvs vs) (k : Ky) : (∀ d, findK kvs k = some d → ∃ v, valV vs k = some v ∧ At K F d v) ∧ (findK kvs k = none → valV vs k = none) := by
  induction h with
  | nil => exact ⟨fun d e => (by cases e), fun _ => rfl⟩
  | @cons k' d' v' kvs' vs' h1 h2 ih =>
    by_cases e : k' = k
    · refine ⟨fun d q => ?_, fun q => ?_⟩
      · rw [findK_cons, if_pos e] at q
        cases q
        exact ⟨v', valV_pos (p := (k', v')) e, h1⟩
      · rw [findK_cons, if_pos e] at q
        cases q
    · refine ⟨fun d q => ?_, fun q => ?_⟩
      · rw [findK_cons, if_neg e] at q
        obtain ⟨v, z1, z2⟩ := ih.1 d q
        exact ⟨v, by rw [valV_neg (p := (k', v')) e]; exact z1, z2⟩
      · rw [findK_cons, if_neg e] at q
        rw [valV_neg (p := (k', v')) e]
        exact ih.2 q
theorem KvAt.len {kvs : List (Ky × D)} {vs : List (Ky × V)} (h : KvAt K F kvs vs) : vs.length = kvs.length := by
  induction h with
  | nil => rfl
  | cons _ _ ih => simp [ih]
theorem KvAt.anyK {kvs : List (Ky × D)} {vs : List (Ky × V)} (h : KvAt K F kvs vs) (k : Ky) : (vs.any fun kv => decide (kv.1 = k)) = kvs.any fun kv => decide (kv.1 = k) := by
  induction h with
  | nil => rfl
  | cons _ _ ih => rw [List.any_cons, List.any_cons, ih]
theorem KvAt.app {a b : List (Ky × D)} {vs us : List (Ky × V)} (h : KvAt K F a vs) (g : KvAt K F b us) : KvAt K F (a ++ b) (vs ++ us) := by
  induction h with
  | nil => exact g
  | cons h1 _ ih => exact .cons h1 ih
theorem KvAt.put {kvs : List (Ky × D)} {vs : List (Ky × V)} (h : KvAt K F kvs vs) (k : Ky) {d : D} {v : V} (g : At K F d v) : KvAt K F (putM kvs k d) (putK vs k v) := by
  unfold putM putK
  rw [h.anyK k]
  split
  · rename_i q0
    clear q0
    induction h with
    | nil => exact .nil
    | @cons k' d' v' kvs' vs' h1 h2 ih =>
      rw [List.map_cons, List.map_cons]
      by_cases e : k' = k
      · simp only [e, if_true]
        exact .cons g ih
      · simp only [e, if_false]
        exact .cons h1 ih
  · exact h.app (.cons g .nil)
theorem MoAt.val {kvs : List (Ky × Nat)} {vs : List (Ky × V)} (h : MoAt A kvs vs) (k : Ky) : (∀ j, findK kvs k = some j → ∃ a, valV vs k = some (.ref a) ∧ A[j]? = some a) ∧ (findK kvs k = none → valV vs k = none) := by
  induction h with
  | nil => exact ⟨fun d e => (by cases e), fun _ => rfl⟩
  | @cons k' d' v' kvs' vs' h1 h2 ih =>
    by_cases e : k' = k
    · refine ⟨fun d q => ?_, fun q => ?_⟩
      · rw [findK_cons, if_pos e] at q
        cases q
        exact ⟨v', valV_pos (p := (k', V.ref v')) e, h1⟩
      · rw [findK_cons, if_pos e] at q
        cases q
    · refine ⟨fun d q => ?_, fun q => ?_⟩
      · rw [findK_cons, if_neg e] at q
        obtain ⟨v, z1, z2⟩ := ih.1 d q
        exact ⟨v, by rw [valV_neg (p := (k', V.ref v')) e]; exact z1, z2⟩
      · rw [findK_cons, if_neg e] at q
        rw [valV_neg (p := (k', V.ref v')) e]
        exact ih.2 q
theorem MoAt.app {a b : List (Ky × Nat)} {vs us : List (Ky × V)} (h : MoAt A a vs) (g : MoAt A b us) : MoAt A (a ++ b) (vs ++ us) := by
  induction h with
  | nil => exact g
  | cons h1 _ ih => exact .cons h1 ih
theorem MoAt.len {kvs : List (Ky × Nat)} {vs : List (Ky × V)} (h : MoAt A kvs vs) : vs.length = kvs.length := by
  induction h with
  | nil => rfl
  | cons _ _ ih => simp [ih]
end
/-- a key by its datum -/
theorem key_at {K : PySem.W.Frag} {F H : Hp} {v : V} {d : D} {k : Ky} (h : Pk K F H v d) (e : dKey d = some k) : v = kV k := by
  cases d with
  | int i =>
    cases e
    exact h.int
  | str x =>
    cases e
    exact h.str
  | _ => cases e
section
variable {X : Cx} {a b c d o : Expr} {ta tb tc td to : VTE} {pos apos cpos : Pos}
/-- {} of its own: of data, of lists -/
def vDctM : VTE := fun e Kp => Kp (.obj e.st.length) ⟨e.sl, e.st ++ [some (.m [])]⟩
theorem ve_dctM : VE X (.Dict [] [] pos) vDctM := PE.imp pe_dnewK fun σ H Q h => by
  obtain ⟨R, F, A, e, Kp, rep, k, fin⟩ := h
  intro p hp
  obtain ⟨r2, pf⟩ := rep.allocO hp (o := .dK []) (ob := .m []) ⟨[], rfl, .nil⟩
  exact fin (.obj e.st.length) _ (.ref p) F (A ++ [p]) _ k (Le.refl F) pf r2 ⟨p, by rw [rep.lenA, List.getElem?_append_right (Nat.le_refl _), Nat.sub_self]; rfl, rfl⟩
/-- what d.get(k), d[k], k in d look at -/
def dGetO (s0 s1 : Sl) (e : En) (Kp : Option Sl → Prop) : Prop := match s0 with
  | .obj j => (match pk s1 e with
    | some dk => (match dKey dk with
      | some k => (match e.st[j]? with
        | some (some (.m kvs)) => Kp ((findK kvs k).map .val)
        | some (some (.mo kvs)) => Kp ((findK kvs k).map .obj)
        | some (some (.lk _ _ kvs)) => Kp ((findK kvs k).map .val)
        | _ => False)
      | none => False)
    | none => False)
  | _ => False
theorem dget_ok {K : PySem.W.Frag} {R F : Hp} {A : List Addr} {σ : L2.St} {H : Hp} {e : En} {x y : V} {s0 s1 : Sl} {Kp : Option Sl → Prop} (rep : Rep K R F A σ H e) (a0 : SlAt K F A x s0) (a1 : SlAt K F A y s1) (h : dGetO s0 s1 e Kp) :
    ∃ a r s, x = .ref a ∧ DGet H a y r ∧ Kp s ∧ (match s with | some s => ∃ v, r = some v ∧ SlAt K F A v s | none => r = none) := by
  unfold dGetO at h
  split at h
  · rename_i j
    split at h
    · rename_i dk hk
      split at h
      · rename_i k ek
        have ey := key_at (rep.pk a1 hk) ek
        obtain ⟨a, ea, rfl⟩ := a0
        split at h
        · rename_i kvs hs
          obtain ⟨a', e1, hF, vs, e2, kv⟩ := rep.store j _ hs
          rw [ea] at e1
          cases e1
          obtain ⟨z1, z2⟩ := kv.val k
          cases q : findK kvs k with
          | some d =>
            obtain ⟨v, w1, w2⟩ := z1 d q
            rw [q] at h
            exact ⟨a, some v, some (.val d), rfl, .inl ⟨vs, k, .inl e2, ey, w1.symm⟩, h, v, rfl, w2⟩
          | none =>
            rw [q] at h
            exact ⟨a, none, none, rfl, .inl ⟨vs, k, .inl e2, ey, (z2 q).symm⟩, h, rfl⟩
        · rename_i kvs hs
          obtain ⟨a', e1, hF, vs, e2, kv⟩ := rep.store j _ hs
          rw [ea] at e1
          cases e1
          obtain ⟨z1, z2⟩ := kv.val k
          cases q : findK kvs k with
          | some i =>
            obtain ⟨b, w1, w2⟩ := z1 i q
            rw [q] at h
            exact ⟨a, some (.ref b), some (.obj i), rfl, .inl ⟨vs, k, .inl e2, ey, w1.symm⟩, h, _, rfl, b, w2, rfl⟩
          | none =>
            rw [q] at h
            exact ⟨a, none, none, rfl, .inl ⟨vs, k, .inl e2, ey, (z2 q).symm⟩, h, rfl⟩
        · rename_i od vs kvs hs
          obtain ⟨a', e1, hF, e2, kv⟩ := rep.store j _ hs
          rw [ea] at e1
          cases e1
          obtain ⟨z1, z2⟩ := kv.val k
          cases q : findK kvs k with
          | some d =>
            obtain ⟨v, w1, w2⟩ := z1 d q
            rw [q] at h
            exact ⟨a, some v, some (.val d), rfl, .inl ⟨vs, k, .inr ⟨od, e2⟩, ey, w1.symm⟩, h, v, rfl, w2⟩
          | none =>
            rw [q] at h
            exact ⟨a, none, none, rfl, .inl ⟨vs, k, .inr ⟨od, e2⟩, ey, (z2 q).symm⟩, h, rfl⟩
        · exact h.elim
      · exact h.elim
    · exact h.elim
  · exact h.elim
def isDO (s : Sl) (e : En) : Prop := match s with
  | .obj j => (match e.st[j]? with
    | some (some (.m _)) => True
    | some (some (.mo _)) => True
    | _ => False)
  | _ => False
theorem isDO_ok {K : PySem.W.Frag} {R F : Hp} {A : List Addr} {σ : L2.St} {H : Hp} {e : En} {x : V} {s : Sl} (rep : Rep K R F A σ H e) (a0 : SlAt K F A x s) (h : isDO s e) : ∃ a, x = .ref a ∧ IsD H a ∧ ∃ kvs, H a = some (.dK kvs) := by
  unfold isDO at h
  split at h
  · rename_i j
    obtain ⟨a, ea, rfl⟩ := a0
    split at h
    · rename_i kvs hs
      obtain ⟨a', e1, hF, vs, e2, kv⟩ := rep.store j _ hs
      rw [ea] at e1
      cases e1
      exact ⟨a, rfl, .inl ⟨vs, .inl e2⟩, vs, e2⟩
    · rename_i kvs hs
      obtain ⟨a', e1, hF, vs, e2, kv⟩ := rep.store j _ hs
      rw [ea] at e1
      cases e1
      exact ⟨a, rfl, .inl ⟨vs, .inl e2⟩, vs, e2⟩
    · exact h.elim
  · exact h.elim
/-- d.get(k, x) -/
def vDGet2 (ta tb tc : VTE) : VTE := fun e Kp => ta e fun s0 e1 => isDO s0 e1 ∧ tb e1 fun s1 e2 => tc e2 fun s2 e3 => dGetO s0 s1 e3 fun r => Kp (r.getD s2) e3
theorem ve_dget2 (hu : X.A.units + 190 < cLine) (ha : VE X a ta) (hb : VE X b tb) (hc : VE X c tc) (m : M2 X a "get" apos b c cpos := by exact ⟨rfl, rfl, rfl, rfl⟩) : VE X (.Call (.Attribute a "get" apos) [b, c] [] cpos) (vDGet2 ta tb tc) := PE.imp (pe_dget2 (Nat.lt_of_le_of_lt (Nat.add_le_add_left (by decide) _) hu) ha hb hc m) fun σ H Q h => by
  obtain ⟨R, F, A, e, Kp, rep, k, fin⟩ := h
  refine ⟨R, F, A, e, _, rep, k, fun s0 e1 x F1 A1 H1 k1 l1 p1 rep1 a1 => ?_⟩
  obtain ⟨p, rfl, id, _⟩ := isDO_ok rep1 a1 k1.1
  refine ⟨p, rfl, id, R, F1, A1, e1, _, rep1, k1.2, fun s1 e2 y F2 A2 H2 k2 l2 p2 rep2 a2 => ⟨R, F2, A2, e2, _, rep2, k2, fun s2 e3 z F3 A3 H3 k3 l3 p3 rep3 a3 => ?_⟩⟩
  obtain ⟨p', r, s, e', g, w, z⟩ := dget_ok rep3 (a1.le (l2.trans l3) (p2.trans p3)) (a2.le l3 p3) k3
  cases e'
  refine ⟨r, g, ?_⟩
  have lz := (l1.trans l2).trans l3
  have pz := (p1.trans p2).trans p3
  cases s with
  | none =>
    subst z
    exact fin s2 e3 _ F3 A3 H3 w lz pz rep3 a3
  | some s =>
    obtain ⟨v, rfl, av⟩ := z
    exact fin s e3 v F3 A3 H3 w lz pz rep3 av
end
end Vl
namespace Vl
open PySem L2 PySem.Spec PyProof.Rows
theorem PC.imp {X : Cx} {op : CmpOp} {a b : Expr} {t t' : TE} (h : PC X op a b t) (f : ∀ σ H Q, t' σ H Q → t σ H Q) : PC X op a b t' := ⟨fun pins s σ H Q I q => h.run pins s σ H Q I (f σ H Q q)⟩
section
variable {X : Cx} {a b c d o i : Expr} {ta tb tc td to ti : VTE} {pos apos cpos : Pos}
theorem u1 (hu : X.A.units + 190 < cLine) : X.A.units + 1 < cLine := Nat.lt_of_le_of_lt (Nat.add_le_add_left (by decide) _) hu
/-- d[k] = v -/
def xgDSub (to ti : VTE) : VTG := fun s e Kp => to e fun so e1 => ti e1 fun si e2 => asD s e2 fun d e3 => match so with
  | .obj j => (match pk si e3 with
    | some dk => (match dKey dk with
      | some k => (match e3.st[j]? with
        | some (some (.m kvs)) => kvs.length < sizeLine ∧ Kp ⟨e3.sl, e3.st.set j (some (.m (putM kvs k d)))⟩
        | _ => False)
      | none => False)
    | none => False)
  | _ => False
theorem vg_dsub (ho : VE X o to) (hi : VE X i ti) (hp : ∀ {u w : TE}, PE X o u → PE X i w → PG X (.Subscript o i pos) (gSub u w rSetD)) : VG X (.Subscript o i pos) [] (xgDSub to ti) := PG.imp (hp ho hi) fun v σ H Q h => by
  obtain ⟨R, F, A, e, s, Kp, rep, a, k, fin⟩ := h
  refine ⟨R, F, A, e, _, rep, k, fun so e1 x F1 A1 H1 k1 l1 p1 rep1 a1 => ⟨R, F1, A1, e1, _, rep1, k1, fun si e2 y F2 A2 H2 k2 l2 p2 rep2 a2 => ?_⟩⟩
  obtain ⟨d, e3, F3, k3, rep3, l3, a3⟩ := rep2.asD (a.le (l1.trans l2) (p1.trans p2)) k2
  have a2' := a2.le l3 (pfx_refl A2)
  have a1' := a1.le (l2.trans l3) p2
  have lz := (l1.trans l2).trans l3
  have pz := p1.trans p2
  cases so with
  | val _ => exact False.elim k3
  | kn _ => exact False.elim k3
  | exc _ => exact False.elim k3
  | obj j =>
    replace k3 : (match pk si e3 with
      | some dk => (match dKey dk with
        | some k => (match e3.st[j]? with
          | some (some (.m kvs)) => kvs.length < sizeLine ∧ Kp ⟨e3.sl, e3.st.set j (some (.m (putM kvs k d)))⟩
          | _ => False)
        | none => False)
      | none => False) := k3
    split at k3
    · rename_i dk hk
      split at k3
      · rename_i k ek
        split at k3
        · rename_i kvs hd
          obtain ⟨b, eb, rfl⟩ := a1'
          obtain ⟨b', q1, q2, vs, q3, q4⟩ := rep3.store j _ hd
          rw [eb] at q1
          cases q1
          have ey := key_at (rep3.pk a2' hk) ek
          subst ey
          exact ⟨b, _, rfl, .inl ⟨vs, k, q3, rfl, by rw [q4.len]; exact k3.1, rfl⟩, fin _ _ _ _ _ k3.2 lz pz (Off.refl _ _) (rep3.writeO eb hd (o := .dK (putK vs k v)) (ob' := .m (putM kvs k d)) ⟨_, rfl, q4.put k a3⟩)⟩
        · exact k3.elim
      · exact k3.elim
    · exact k3.elim
end
end Vl
namespace Vl
open PySem L2 PySem.Spec PyProof.Rows
def allS : List (Option Ob) → Option (List Ob)
  | [] => some []
  | some ob :: r => (allS r).map (ob :: ·)
  | none :: _ => none
theorem allS_map : ∀ cs : List Ob, allS (cs.map some) = some cs
  | [] => rfl
  | c :: cs => by
    show (allS (cs.map some)).map (c :: ·) = _
    rw [allS_map cs]
    rfl
def retA (s : Sl) (e : En) (Kp : Sl → List Ob → Prop) : Prop := match allS e.st with
  | none => False
  | some st' => match s with
    | .exc _ => False
    | s => Kp s st'
def vFmt (ta : VTE) : VTE := fun e Kp => ta e fun s e1 => match pk s e1 with
  | some (.int i) => i.natAbs.log2 < 1920 ∧ Kp (.val (.str (toString i))) e1
  | some (.str y) => y.length ≤ sizeLine ∧ Kp (.val (.str y)) e1
  | _ => False
section
variable {X : Cx} {a b : Expr} {ta tb : VTE} {pos : Pos}
theorem ve_fmt {p : Pos} (ha : VE X a ta) : VE X (.FormattedValue a (-1) none p) (vFmt ta) := PE.imp (pe_fmt ha) fun σ H Q h => by
  obtain ⟨R, F, A, e, Kp, rep, k, fin⟩ := h
  refine ⟨R, F, A, e, _, rep, k, fun s e1 x F1 A1 H1 k1 l1 p1 rep1 a1 => ?_⟩
  split at k1
  · rename_i i hi
    exact .inr ⟨i, (rep1.pk a1 hi).int, k1.1, (fin.tr l1 p1).val rep1 k1.2 (.str _)⟩
  · rename_i y hy
    exact .inl ⟨y, (rep1.pk a1 hy).str, k1.1, (fin.tr l1 p1).val rep1 k1.2 (.str _)⟩
  · exact k1.elim
theorem emp_app (x : Str) : Str.empty ++ x = x := by
  show Str.mk (Str.empty.cps ++ x.cps) = x
  rw [show Str.empty.cps = #[] from rfl]
  simp
def vJoinC (x : Str) (tb : VTE) : VTE := fun e Kp => x.length ≤ sizeLine ∧ tb e fun s2 e2 => match s2 with
  | .val (.str y) => (x ++ y).length ≤ sizeLine ∧ Kp (.val (.str (x ++ y))) e2
  | _ => False
theorem ve_joinC {x : Str} {j : Nat} {p : Pos} (hb : VE X b tb) : VE X (.JoinedStr [.Constant (.str x) j p, b] pos) (vJoinC x tb) := PE.imp (pe_joined (.cons pe_str (.cons hb .nil))) fun σ H Q h => by
  obtain ⟨R, F, A, e, Kp, rep, ⟨hx, k⟩, fin⟩ := h
  refine ⟨x, rfl, by rw [emp_app]; exact hx, ?_⟩
  rw [emp_app]
  refine ⟨R, F, A, e, _, rep, k, fun s2 e2 y F2 A2 H2 k2 l2 p2 rep2 a2 => ?_⟩
  split at k2
  · rename_i y'
    have ey : y = .str y' := by
      have a2' : At X.K F2 (.str y') y := a2
      cases a2'
      rfl
    exact ⟨y', ey, k2.1, (fin.tr l2 p2).val rep2 k2.2 (.str _)⟩
  · exact k2.elim
end
end Vl
namespace Vl
open PySem L2 PySem.Spec PyProof.Rows
theorem MoAt.anyK {A : List Addr} {kvs : List (Ky × Nat)} {vs : List (Ky × V)} (h : MoAt A kvs vs) (k : Ky) : (vs.any fun kv => decide (kv.1 = k)) = kvs.any fun kv => decide (kv.1 = k) := by
  induction h with
  | nil => rfl
  | cons _ _ ih => rw [List.any_cons, List.any_cons, ih]
theorem MoAt.put {A : List Addr} {kvs : List (Ky × Nat)} {vs : List (Ky × V)} (h : MoAt A kvs vs) (k : Ky) {j : Nat} {a : Addr} (g : A[j]? = some a) : MoAt A (putM kvs k j) (putK vs k (.ref a)) := by
  unfold putM putK
  rw [h.anyK k]
  split
  · rename_i q0
    clear q0
    induction h with
    | nil => exact .nil
    | @cons k' d' v' kvs' vs' h1 h2 ih =>
      rw [List.map_cons, List.map_cons]
      by_cases e : k' = k
      · simp only [e, if_true]
        exact .cons g ih
      · simp only [e, if_false]
        exact .cons h1 ih
  · exact h.app (.cons g .nil)
/-- the turns: n0 the dict's place -/
def cd (g : VTG) (tk tv : VTE) (chk : Option (En → Prop)) (vs : List Nat) (n0 : Nat) : List D → En → (En → Prop) → Prop
  | [], e, Kp => wth chk e (Kp e)
  | d :: ds, e, Kp => wth chk e (g (.val d) e fun e1 => tk e1 fun s1 e2 => tv e2 fun s2 e3 => match pk s1 e3 with
    | some dk => (match dKey dk with
      | some k => (match s2 with
        | .obj i => (match e3.st[n0]? with
          | some (some (.mo kvs)) => kvs.length < sizeLine ∧ cd g tk tv chk vs n0 ds (En.wipe ⟨e3.sl, e3.st.set n0 (some (.mo (putM kvs k i)))⟩ vs) Kp
          | _ => False)
        | _ => False)
      | none => False)
    | none => False)
end Vl
namespace Vl
open PySem L2 PySem.Spec PyProof.Rows
end Vl
namespace Vl
open PySem L2 PySem.Spec PyProof.Rows
end Vl
namespace Vl
open PySem L2 PySem.Spec PyProof.Rows
end Vl
namespace Vl
open PySem L2 PySem.Spec PyProof.Rows
end Vl
namespace Vl
open PySem L2 PySem.Spec PyProof.Rows
end Vl
namespace Vl
open PySem L2 PySem.Spec PyProof.Rows
structure VFxN (P : Program) (w : World) (K : PySem.W.Frag) (mg : Str → Option Value) (base : Heap) (k : Nat) (x : Str) (ps : List Str) (p : VSx) : Prop where
  ex : ∃ f fd, FnOk P w K mg base (L2.CX P w) k f fd ps (spX K mg p) ∧ PySem.W.keepIn K (.ref f) = true ∧ Binds K fd ps [.none] ∧ mg x = some (.ref f)
section
variable {X : Cx} {x : Str} {ps : List Str} {k j : Nat} {p : VSx} {pp pos : Pos} {ex : Expr} {es : List Expr} {t : VTA}
def xCallN (own : Ob → En → KE → Prop) (p : VSx) (ss : List Sl) (e : En) (Kp : KE) (Ep : Xv → En → Prop) : Prop := xCallK own p (ss ++ [.val .none]) e Kp Ep
def xIxE (t : VTEx) (ti : VTE) : VTEx := fun e Kp Ep => t e (fun s e1 => ti e1 fun s2 e2 => xIx s s2 e2 Kp) Ep
end
end Vl
namespace Vl
open PySem L2 PySem.Spec PyProof.Rows
structure VFnN (P : Program) (w : World) (K : PySem.W.Frag) (mg : Str → Option Value) (base : Heap) (k : Nat) (x : Str) (ps : List Str) (p : VSp) : Prop where
  ex : ∃ f fd, FnOk P w K mg base CX0 k f fd ps (spV K p) ∧ PySem.W.keepIn K (.ref f) = true ∧ Binds K fd ps [.none] ∧ mg x = some (.ref f)
theorem VFxN.pure {P : Program} {w : World} {K : PySem.W.Frag} {mg : Str → Option Value} {base : Heap} {k : Nat} {x : Str} {ps : List Str} {p : VSx} (h : VFxN P w K mg base k x ps p) : VFnN P w K mg base k x ps (fun ss st Kp => p ss st Kp fun _ _ => False) := by
  obtain ⟨f, fd, a, b, c, d⟩ := h.ex
  have imp : ∀ vs H Q E, spV K (fun ss st Kp => p ss st Kp fun _ _ => False) vs H Q E → spX K mg p vs H Q (fun _ _ _ => False) := fun vs H Q E ⟨R, F, A, ss, st, Kp, r, q, z⟩ => ⟨R, F, A, ss, st, Kp, _, r, q, z, fun _ _ _ _ _ _ _ k => k.elim⟩
  refine ⟨f, fd, ⟨fun vs H Q E h => a.len _ _ _ _ (imp _ _ _ _ h), fun B outer s H args us vs Q E hr e0 bt r h => ?_⟩, b, c, d⟩
  refine codeAny_mono (a.run B outer s H args us vs Q _ hr e0 bt r (imp _ _ _ _ h)) fun rr s' hq => ?_
  cases rr with
  | error e =>
    obtain ⟨_, _, _, _, _, _, _, _, _, _, _, _, z⟩ := hq
    exact z.elim
  | ok fl => cases fl <;> exact hq
def opCallN (own : Ob → En → KE → Prop) (p : VSp) (ss : List Sl) (e : En) (Kp : KE) : Prop := opCallK own p (ss ++ [.val .none]) e Kp
end Vl
namespace Vl
open PySem L2 PySem.Spec PyProof.Rows
section
variable {X : Cx} {a b c o : Expr} {ta tb to : VTE} {pos : Pos}
def rngD (hi : Int) (n : Nat) : List D := (List.range n).map fun i => PyData.int (hi + (i : Nat) * (-1))
def vRngD (t : VTA) : VTI := fun e Kp => t e fun ss e1 => match ss with
  | [s, u, v] => (match pk s e1, pk u e1, pk v e1 with
    | some (.int i), some (.int j), some (.int k) => k = -1 ∧ (-(2 ^ 62) ≤ i ∧ i < 2 ^ 62 ∧ -(2 ^ 62) ≤ j ∧ j < 2 ^ 62) ∧ Kp (rngD i (i - j).toNat) none e1
    | _, _, _ => False)
  | _ => False
def vFn (f : Addr) : VTE := fun e Kp => Kp (.exc f) e
end
/-- a call of a local name that holds one of some defs -/
def vCallL (i : Nat) (S : Addr → Option VSp) (own : Ob → En → KE → Prop) (t : VTA) : VTE := fun e Kp => match e.sl[i]? with
  | some (some (.exc f)) => (match S f with
    | some p => vN (opCallK own p) t e Kp
    | none => False)
  | _ => False
end Vl
namespace Vl
open PySem L2 L2H PySem.Spec PyProof.Rows
def vOdd (a : Addr) (i : Nat) (b : Bool) : VTE := fun e Kp => e.sl[i]? = some (some (.exc a)) ∧ Kp (.val (.bool b)) e
end Vl
namespace Vl
open PySem L2 PySem.Spec PyProof.Rows Builtin
end Vl
namespace Vl
open PySem L2 PySem.Spec PyProof.Rows
def IsFn (K : PySem.W.Frag) (f : Addr) : Prop := PySem.W.typeIn K (.ref f) = some (.type "function")
section
variable {X : Cx} {a b : Expr} {ta tb : VTE} {pos : Pos}
def vWays (i1 i2 : Nat) (fs : List Addr) (t : VTE) (u : VTS) : VTS := fun D e => i1 < e.sl.length ∧ t ⟨e.sl.set i1 none, e.st⟩ fun s e1 => match pk s e1 with
  | some (.int n) => 0 ≤ n ∧ ∃ f, fs[n.toNat]? = some f ∧ u D ⟨e1.sl.set i2 (some (.exc f)), e1.st⟩
  | _ => False
end
end Vl
namespace Vl
open PySem L2 PySem.Spec PyProof.Rows
structure Ways4 (P : Program) (w : World) (K : PySem.W.Frag) (mg : Str → Option Value) (base : Heap) (k : Nat) (x1 x2 x3 x4 : Str) (ps : List Str) (f1 f2 f3 f4 : Addr) (p : VSp) : Prop where
  m1 : mg x1 = some (.ref f1)
  m2 : mg x2 = some (.ref f2)
  m3 : mg x3 = some (.ref f3)
  m4 : mg x4 = some (.ref f4)
  isF : ∀ f ∈ [f1, f2, f3, f4], IsFn K f
  G : ∀ f ∈ [f1, f2, f3, f4], ∃ fd, FnOk P w K mg base CX0 k f fd ps (spV K p) ∧ PySem.W.keepIn K (.ref f) = true ∧ Binds K fd ps []
theorem Ways4.of {P : Program} {w : World} {K : PySem.W.Frag} {mg : Str → Option Value} {base : Heap} {k : Nat} {x1 x2 x3 x4 : Str} {ps : List Str} {p : VSp} (G1 : VFn P w K mg base k x1 ps p) (G2 : VFn P w K mg base k x2 ps p) (G3 : VFn P w K mg base k x3 ps p) (G4 : VFn P w K mg base k x4 ps p)
    (T1 : ∀ f, mg x1 = some (.ref f) → IsFn K f) (T2 : ∀ f, mg x2 = some (.ref f) → IsFn K f) (T3 : ∀ f, mg x3 = some (.ref f) → IsFn K f) (T4 : ∀ f, mg x4 = some (.ref f) → IsFn K f) :
    ∃ f1 f2 f3 f4, Ways4 P w K mg base k x1 x2 x3 x4 ps f1 f2 f3 f4 p := by
  obtain ⟨f1, d1, a1, b1, c1, e1⟩ := G1.ex
  obtain ⟨f2, d2, a2, b2, c2, e2⟩ := G2.ex
  obtain ⟨f3, d3, a3, b3, c3, e3⟩ := G3.ex
  obtain ⟨f4, d4, a4, b4, c4, e4⟩ := G4.ex
  refine ⟨f1, f2, f3, f4, e1, e2, e3, e4, fun f hf => ?_, fun f hf => ?_⟩
  · simp only [List.mem_cons, List.not_mem_nil, or_false] at hf
    rcases hf with rfl | rfl | rfl | rfl
    · exact T1 _ e1
    · exact T2 _ e2
    · exact T3 _ e3
    · exact T4 _ e4
  · simp only [List.mem_cons, List.not_mem_nil, or_false] at hf
    rcases hf with rfl | rfl | rfl | rfl
    · exact ⟨d1, a1, b1, c1⟩
    · exact ⟨d2, a2, b2, c2⟩
    · exact ⟨d3, a3, b3, c3⟩
    · exact ⟨d4, a4, b4, c4⟩
theorem Ways4.pa {X : Cx} {k : Nat} {x1 x2 x3 x4 : Str} {ps : List Str} {p : VSp} {f1 f2 f3 f4 : Addr} {p1 p2 p3 p4 : Pos} (W : Ways4 X.prog X.w X.K X.mg X.base k x1 x2 x3 x4 ps f1 f2 f3 f4 p) (g1 : Gl X x1) (g2 : Gl X x2) (g3 : Gl X x3) (g4 : Gl X x4)
    (h1 : (x1 == ("__debug__" : Str)) = false := by decide) (h2 : (x2 == ("__debug__" : Str)) = false := by decide) (h3 : (x3 == ("__debug__" : Str)) = false := by decide) (h4 : (x4 == ("__debug__" : Str)) = false := by decide)
    (s1 : starEach [.Name x1 p1, .Name x2 p2, .Name x3 p3, .Name x4 p4] X.env = (false, eval (.Name x1 p1) X.env) :: starEach [.Name x2 p2, .Name x3 p3, .Name x4 p4] X.env := by rfl)
    (s2 : starEach [.Name x2 p2, .Name x3 p3, .Name x4 p4] X.env = (false, eval (.Name x2 p2) X.env) :: starEach [.Name x3 p3, .Name x4 p4] X.env := by rfl)
    (s3 : starEach [.Name x3 p3, .Name x4 p4] X.env = (false, eval (.Name x3 p3) X.env) :: starEach [.Name x4 p4] X.env := by rfl)
    (s4 : starEach [.Name x4 p4] X.env = (false, eval (.Name x4 p4) X.env) :: starEach [] X.env := by rfl) : PA X [.Name x1 p1, .Name x2 p2, .Name x3 p3, .Name x4 p4] (fun _ H Q => Q ([f1, f2, f3, f4].map V.ref) H) :=
  pa_cons (pe_glob (v := .ref f1) g1 W.m1 rfl h1) (pa_cons (pe_glob (v := .ref f2) g2 W.m2 rfl h2) (pa_cons (pe_glob (v := .ref f3) g3 W.m3 rfl h3) (pa_cons (pe_glob (v := .ref f4) g4 W.m4 rfl h4) pa_nil s4) s3) s2) s1
def wayS (fs : List Addr) (p : VSp) (f : Addr) : Option VSp := if f ∈ fs then some p else none
theorem Ways4.call {P : Program} {w : World} {K : PySem.W.Frag} {mg : Str → Option Value} {base : Heap} {k : Nat} {x1 x2 x3 x4 : Str} {ps : List Str} {p : VSp} {f1 f2 f3 f4 : Addr} (W : Ways4 P w K mg base k x1 x2 x3 x4 ps f1 f2 f3 f4 p) :
    ∀ f q, wayS [f1, f2, f3, f4] p f = some q → ∃ fd, FnOk P w K mg base CX0 k f fd ps (spV K q) ∧ PySem.W.keepIn K (.ref f) = true ∧ Binds K fd ps [] := fun f q h => by
  unfold wayS at h
  split at h
  · cases h
    exact W.G f (by assumption)
  · cases h
end Vl
namespace Vl
open PySem L2 PySem.Spec PyProof.Rows
end Vl
namespace Vl
open PySem L2 PySem.Spec PyProof.Rows
end Vl
namespace Vl
open PySem L2 PySem.Spec PyProof.Rows
end Vl
namespace Gx
open PySem PySem.Spec PyProof.Rows L2 GenW GxR NdefX
section
variable {M : Model} {A : Around} {E : Value → Shared → Prop} {s : Shared}
/-- the code object of a generator expression, found in the def's table or put there -/
theorem code_any {env : Env} {c P : Addr} {tab : Array Value} {pos : Pos} {qn : Str} {scope : Scope} {Q : Value → Shared → Prop} (hc : env.code = .ref c) (cd : PySem.W.CodeHd s.heap c P)
    (hP : s.heap.get? P = some { cls := .none, data := .fields tab }) (ht : TriplesOk tab.toList)
    (k : ∀ (code : Value) (hp : Heap) (tk : Nat) (tab' : Array Value), Heap.ExtBut P s.heap hp → s.heap.objs.size ≤ hp.objs.size → hp.get? P = some { cls := .none, data := .fields tab' } → (∃ more, tab' = tab ++ more) → TriplesOk tab'.toList →
      Q code { s with heap := hp, toks := tk }) : wpAny M A (genexprCode env pos qn scope) Q E s := by
  cases hf : codeAmong pos tab.toList with
  | some cv => exact wpAny_genexprCode_hit hc (cd.code hP ht) hf (k cv s.heap s.toks tab (Heap.ExtBut.refl _ _) (Nat.le_refl _) hP ⟨#[], by simp⟩ ht)
  | none =>
    refine wpAny_genexprCodeX hc (cd.code hP ht) (cd.tab hP) hf fun c' hp tk ext lo hi isC _ isT _ => ?_
    obtain ⟨_, _, _, _, _, _, _, _, _, _, _, _, _, _, _, _, _, _, _, tri, _⟩ := isC
    exact k _ hp tk _ ext (Nat.le_of_lt (Nat.lt_of_le_of_lt lo hi)) isT.2 ⟨_, rfl⟩ tri
end
/-- the generator's own scope: captured names are the def's -/
structure GSc (X : Cx) (scope : Scope) : Prop where
  kind : scope.kind = .function
  co : scope.isCoroutine = false
  cell : ∀ y ∈ scope.names, y.2 ≠ .cell
  dot : scope.names.lookup (".0" : Str) = some NameKind.local
  free : ∀ y ∈ scope.names, y.2 = .free → X.env.scope.names.lookup y.1 = some .cell ∨ X.env.scope.names.lookup y.1 = some .free
abbrev genv (X : Cx) (scope : Scope) (s : Shared) (code : Value) : Env := genEnv scope (cloFrom X.env.cells scope.names []) s.heap.objs.size code builtinsNs X.env
/-- the context of its element -/
def gcx (X : Cx) (N : List Str) (scope : Scope) (code : Value) (s : Shared) (H : Hp) (A : Around) (ex : List Addr) (pn : List (Addr × Obj)) : Cx where
  prog := X.prog
  w := X.w
  K := X.K
  mg := X.mg
  base := X.base
  A := A
  N := N
  s_0 := s
  H_0 := H
  env := genv X scope s code
  outer := X.stack
  stack := genv X scope s code :: X.stack
  ex := ex
  fn := fun _ => false
  calm := true
  pn := pn
  xe := fun _ _ => False
/-- names of the generator and of the def: what a captured name holds -/
def capt (caps : List (Option Nat)) (σ : L2.St) : L2.St := caps.map fun c => match c with
  | none => none
  | some j => (σ[j]?).getD none
structure Caps (X : Cx) (scope : Scope) (N : List Str) (caps : List (Option Nat)) : Prop where
  len : caps.length = N.length
  at_ : ∀ (i j : Nat) (x : Str), caps[i]? = some (some j) → N[i]? = some x → X.N[j]? = some x ∧ scope.names.lookup x = some .free
section
variable {X : Cx} {pins : List (Addr × Obj)} {σ : L2.St} {H : Hp} {s : Shared}
theorem GSc.has {scope : Scope} (S : GSc X scope) (I : Inv X pins σ H s) : ∀ y ∈ scope.names, y.2 = .free → ∃ c, X.env.cells.lookup y.1 = some c := fun y hy e => I.ok.has _ (S.free y hy e)
theorem Inv.same {s' : Shared} (I : Inv X pins σ H s) (hh : s'.heap = s.heap) (ho : s'.os = s.os) (hb : AllBare s'.gens) : Inv X pins σ H s' := by
  obtain ⟨h1, g1, d1, t1, o1⟩ := s'
  cases hh
  exact ⟨I.ok, ho.trans I.os, hb, I.base, I.loc, I.cell, I.free, I.freeC, I.pin, I.hok, I.len⟩
/-- the generator has been made: its frame stands behind all that stood -/
theorem inv_gen {scope : Scope} {N : List Str} {caps : List (Option Nat)} {code it : Value} {A : Around} {ex : List Addr} {s5 : Shared} {a : Addr} {go : Obj} (S : GSc X scope) (C : Caps X scope N caps) (I : Inv X pins σ H s)
    (hex : ∀ b ∈ ex, FpOk X pins H b) (hexo : ∀ b ∈ ex, b < s.heap.objs.size) (hd : A.handled = none) (hfr : A.frames = some (genv X scope s code :: X.stack))
    (hos : s5.os = s.os) (hb : AllBare s5.gens) (hk : ∀ b o, s.heap.get? b = some o → s5.heap.get? b = some o) (hns : s5.heap.Ns s.heap.objs.size fun y => if y = (".0" : Str) then some it else none)
    (ha : s.heap.objs.size < a) (hgo : s5.heap.get? a = some go) (hgd : ∀ v, go.data ≠ .cell v) :
    Inv (gcx X N scope code s H A ex [(a, go)]) [] (capt caps σ) H s5 := by
  have free := S.has I
  have cm : ∀ {y : Str} {c : Addr}, (cloFrom X.env.cells scope.names []).lookup y = some c → X.env.cells.lookup y = some c := fun e => clo_cm free e
  have nofr : ∀ b ∈ ex, b ∉ frs X.stack := fun b hb hm => by
    obtain ⟨_, h2, h3, _⟩ := hex b hb
    rcases List.mem_cons.mp (I.stkSub b hm) with z | z
    · exact h2 z
    · exact h3 z
  have lt0 : ∀ {b : Addr} {o : Obj}, s.heap.get? b = some o → b ≠ s.heap.objs.size := fun e => Nat.ne_of_lt (Heap.lt_size e)
  have hH : ∀ {b : Addr}, s.heap.objs.size ≤ b → H b = none := fun h => I.hok.fresh h
  refine ⟨⟨I.ok.mod, S.kind, I.ok.glob, rfl, Nat.le_refl _, fun x y c h1 h2 => I.ok.inj x y c (cm h1) (cm h2), fun y hy => ?_, fun _ _ h => (by cases h), fun _ => hd, hfr, .inr ⟨rfl, rfl⟩, fun b hb => ⟨fun e => ?_, fun x c e z => ?_⟩, I.bs, Nat.le_trans I.ok.bsz I.sz, fun b o e hm => ?_, fun b hb => nofr b hb, I.stack, I.stkFree⟩,
    hos, hb, Un.kept hk, ⟨_, hns, fun i x v h1 h2 h3 => ?_⟩, fun y c h => ?_, hH (Nat.le_refl _), fun y c h => I.freeC y c (cm h), fun p hp => ?_, I.hok.kept hk, ?_⟩
  · replace hy : scope.names.lookup y = some .cell ∨ scope.names.lookup y = some .free := hy
    rcases hy with hy | hy
    · exact absurd rfl (S.cell _ (PySem.mem_of_lookup hy))
    · obtain ⟨c, hc⟩ := free _ (PySem.mem_of_lookup hy) rfl
      exact ⟨c, clo_has free (PySem.mem_of_lookup hy) hc⟩
  · exact absurd e (Nat.ne_of_lt (hexo b hb))
  · exact (hex b (by assumption)).2.2.2.2.1 x c (cm e) z
  · obtain ⟨_, _, _, h4, _⟩ := hex b hm
    rcases h4 with z | z
    · exact I.ok.noex b o e z
    · exact absurd (Nat.lt_of_lt_of_le (Heap.lt_size e) (Nat.le_trans I.ok.bsz z)) (Nat.lt_irrefl _)
  · replace h2 : (capt caps σ)[i]? = some (some v) := h2
    unfold capt at h2
    rw [List.getElem?_map] at h2
    obtain ⟨c, hc, e⟩ := Option.map_eq_some_iff.mp h2
    cases c with
    | none => cases e
    | some j =>
      obtain ⟨q1, q2⟩ := C.at_ i j x hc h1
      replace e : (σ[j]?).getD none = some v := e
      have ej : σ[j]? = some (some v) := by
        cases z : σ[j]? with
        | none => rw [z] at e; cases e
        | some w => rw [z] at e; cases e; rfl
      have kx := S.free (x, .free) (PySem.mem_of_lookup q2) rfl
      obtain ⟨m, _, hl⟩ := I.loc
      obtain ⟨u, r, l⟩ := hl j x v q1 ej (by
        rcases kx with z | z
        · exact .inr (.inl z)
        · exact .inr (.inr z))
      refine ⟨u, r, ?_⟩
      rcases l with ⟨l, _⟩ | ⟨_, c, hc, cell⟩
      · replace l : X.env.scope.names.lookup x = some .local := l
        rcases kx with z | z <;> (rw [l] at z; cases z)
      · refine .inr ⟨.inr q2, c, clo_has free (PySem.mem_of_lookup q2) hc, ?_⟩
        obtain ⟨o, ho, hd⟩ := cell
        exact ⟨o, hk _ _ ho, hd⟩
  · obtain ⟨v, o, ho, hd⟩ := I.cell y c (cm h)
    exact ⟨v, o, hk _ _ ho, hd⟩
  · rcases List.mem_append.mp hp with z | z
    · rw [List.mem_singleton.mp z]
      refine ⟨hgo, hH (Nat.le_of_lt ha), Nat.ne_of_gt ha, fun hm => ?_, hgd⟩
      obtain ⟨_, o, ho, _⟩ := I.stack.mem hm
      exact absurd (Nat.lt_trans (Heap.lt_size ho) ha) (Nat.lt_irrefl _)
    · cases z
  · show (capt caps σ).length = N.length
    unfold capt
    rw [List.length_map, C.len]
end
end Gx
namespace Gx
open PySem PySem.Spec PyProof.Rows L2 GenW GxR NdefX
/-- the turns: c is the truth by which it goes on (all: true, any: false) -/
def alR (c : Bool) (J : It) (g : TG) (te : TE) (Rf : Bool → Hp → Prop) : Nat → Nat → L2.St → Hp → Prop
  | 0, _, _, _ => False
  | m + 1, i, σ, H => (J.stop i H ∧ Rf c H) ∨ (J.go i H ∧ ∀ x H1, J.yld i H x H1 → g x σ H1 fun σ2 H2 => te σ2 H2 fun v H3 => ∃ b, v = .bl b ∧ if b = c then alR c J g te Rf m (i + 1) σ2 H3 else Rf b H3)
abbrev gexp (elt tg iter : Expr) (scope : Scope) (pos : Pos) : Expr := .GeneratorExp elt [⟨tg, iter, [], 0⟩] scope pos
abbrev gloop (elt tg iter : Expr) (scope : Scope) (pos : Pos) (it : Addr) (env : Env) : Code := .compLoop (gexp elt tg iter scope pos) 0 (.ref it) .none env
abbrev gstart (elt tg iter : Expr) (scope : Scope) (pos : Pos) (it : Addr) (env : Env) : Code := .compStart (gexp elt tg iter scope pos) 0 (.ref it) .none env
def PR (X : Cx) (c : Bool) (Rf : Bool → Hp → Prop) (s : Shared) : Prop := ∃ σ H, Inv X [] σ H s ∧ Rf c H
abbrev RG (X : Cx) (c : Bool) (Rf : Bool → Hp → Prop) : GenEnd := fun n s0 r s => r = .ok .next ∧ (fun (_ : Nat) (_ : Shared) (s : Shared) => PR X c Rf s) n s0 s
def YG (X : Cx) (c : Bool) (Rf : Bool → Hp → Prop) : Protocol := fun _ _ v s kap => ∃ b σ H, v = .bool b ∧ Inv X [] σ H s ∧ (b ≠ c → Rf b H) ∧ (b = c → ∀ s'', s''.heap = s.heap → s''.os = s.os → AllBare s''.gens → kap (.send .none) s'')
section
variable {X : Cx} {A : Around} {c : Bool} {J : It} {g : TG} {te : TE} {Rf : Bool → Hp → Prop} {elt tg iter : Expr} {scope : Scope} {pos : Pos} {fp : List Addr} {it : Addr} {tn : Nat → Heap → Prop}
theorem seg_loop (T : Turn X.prog X.w X.K tg J fp it tn) (hg : PG X tg g) (he : PE X elt te) (hxe : ∀ v s, ¬ X.xe v s) (hA : A.over (gloop elt tg iter scope pos it X.env) [] = X.A) (hco : X.env.scope.isCoroutine = false) (hcalm : X.calm = true) :
    ∀ (m i : Nat) (σ : L2.St) (H : Hp) (s s0 : Shared), Inv X [] σ H s → tn i s.heap → (∀ b ∈ fp, FpOk X [] H b) → alR c J g te Rf m i σ H →
      Seg (model X.prog X.w) A (RG X c Rf) (YG X c Rf) m s0 (gloop elt tg iter scope pos it X.env) ((model X.prog X.w).den (gloop elt tg iter scope pos it X.env)) [] s := by
  intro m
  induction m with
  | zero => intro i σ H s s0 I st f h; exact h.elim
  | succ m ih =>
    intro i σ H s s0 I st f h
    show Seg _ A _ _ _ s0 _ ((compTurn (gexp elt tg iter scope pos) 0 (.ref it) .none X.env).onRaise (leaving X.env)) [] s
    rw [compTurn_gen, Sem.onRaise_eq_wrap]
    refine seg_bind_wrap (wpAny_standAt ?_)
    have stat : ∀ {H' : Hp}, (∀ b ∈ fp, H' b = none) → ∀ b ∈ fp, FpOk X [] H' b := fun hn b hb => ⟨hn b hb, (f b hb).2⟩
    rcases h with ⟨stop, q⟩ | ⟨go, step⟩
    · refine seg_bind_wrap ?_
      rw [hA]
      refine wpAny_mono (T.done X rfl rfl rfl hcalm i [] s σ H (fun _ _ => False) I f st stop) (fun r s1 ⟨hr, I1⟩ => ?_) fun _ _ e => e.elim
      subst hr
      exact seg_end (.ok .next) ⟨rfl, σ, H, I1, q⟩
    · refine seg_bind_wrap ?_
      rw [hA]
      refine wpAny_mono (T.item X rfl rfl rfl hcalm i [] s σ H (fun _ _ => False) I f st go) (fun r s4 ⟨u, hr, h4⟩ => ?_) fun _ _ e => e.elim
      subst hr
      refine seg_bind_wrap ?_
      rw [hA]
      refine wpAny_mono h4 (fun _ s5 ⟨x, H5, I5, r5, y5, st5, fr5⟩ => ?_) fun _ _ e => e.elim
      have I5' := I5.pinned (stat fr5) (T.obj _ _ st5)
      refine seg_bind_wrap ?_
      rw [hA]
      refine wpAny_mono (hg.run _ s5 σ H5 x u _ I5' r5 (step x H5 y5)) (fun _ s6 ⟨σ6, H6, I6, q6⟩ => ?_) fun v s e => (hxe v s e).elim
      refine seg_bind_wrap ?_
      simp only [List.forIn_nil]
      refine wpAny_pure ?_
      simp only [if_true]
      have hy : ∀ v, yieldOut X.env v = yieldValue v := fun v => by simp only [yieldOut, hco, Bool.false_eq_true, if_false]
      simp only [hy]
      rw [Sem.bind_eq_wrap', Sem.bind_eq_wrap', Sem.wrap_wrap, Sem.wrap_wrap]
      refine seg_wrap ?_
      rw [hA]
      refine wpAny_mono (he.run _ s6 σ6 H6 _ I6 q6) (fun y s7 ⟨v, H7, I7, rv, b, ev, q7⟩ => ?_) fun v s e => (hxe v s e).elim
      subst ev
      have ey : y = .bool b := rv
      subst ey
      refine seg_at (seg_yield rfl rfl rfl ⟨b, σ6, H7, rfl, I7.unpinned, fun ne => by rw [if_neg ne] at q7; exact q7, fun e s'' hh ho hb => ?_⟩)
      rw [if_pos e] at q7
      have k7 : ∀ b ∈ fp, ∀ o, s5.heap.get? b = some o → s7.heap.get? b = some o ∧ H7 b = none := fun b hb o e => by
        have := I7.pin (b, o) (List.mem_append_right _ (List.mem_append_right _ (mem_pinsAt hb e)))
        exact ⟨this.1, this.2.1⟩
      refine seg_again rfl (ih (i + 1) σ6 H7 s'' s'' (Inv.same I7.unpinned hh ho hb) ?_ (fun b hb => stat (fun b hb => ?_) b hb) q7)
      · rw [hh]
        exact T.keep _ _ _ st5 fun b hb o e => (k7 b hb o e).1
      · obtain ⟨o, e, _⟩ := T.obj _ _ st5 b hb
        exact (k7 b hb o e).2
theorem seg_start (T : Turn X.prog X.w X.K tg J fp it tn) (hg : PG X tg g) (he : PE X elt te) (hxe : ∀ v s, ¬ X.xe v s) (hA : A.over (gloop elt tg iter scope pos it X.env) [] = X.A) (hco : X.env.scope.isCoroutine = false) (hcalm : X.calm = true)
    (m : Nat) (σ : L2.St) (H : Hp) (s s0 : Shared) (I : Inv X [] σ H s) (st : tn 0 s.heap) (f : ∀ b ∈ fp, FpOk X [] H b) (h : alR c J g te Rf m 0 σ H) :
      Seg (model X.prog X.w) A (RG X c Rf) (YG X c Rf) m s0 (gstart elt tg iter scope pos it X.env) ((model X.prog X.w).den (gstart elt tg iter scope pos it X.env)) [] s := by
  have loop := seg_loop (iter := iter) (scope := scope) (pos := pos) (c := c) (Rf := Rf) T hg he hxe hA hco hcalm m 0 σ H s s0 I st f h
  show Seg _ A _ _ _ s0 _ ((compStart (gexp elt tg iter scope pos) 0 (.ref it) .none X.env).onRaise (leaving X.env)) [] s
  unfold compStart
  rw [Sem.onRaise_eq_wrap]
  show Seg _ A _ _ _ s0 _ ((ask >>= _).wrap _ _ _ _) [] s
  refine seg_bind_wrap (wpAny_askSetting ?_)
  split
  · exact seg_again rfl loop
  · first
      | exact seg_bind_wrap (wpAny_rule (seg_bind_wrap (wpAny_standAt (seg_bind_wrap (T.self _ 0 s _ _ st (seg_again rfl loop))))))
      | (refine seg_bind_wrap (wpAny_rule ?_); show Seg _ A _ _ _ s0 _ ((standAt iter.pos >>= _).wrap _ _ _ _) [] s; exact seg_bind_wrap (wpAny_standAt (seg_bind_wrap (T.self _ 0 s _ _ st (seg_again rfl loop)))))
end
section
variable {X : Cx} {A : Around} {c : Bool} {Rf : Bool → Hp → Prop} {R : Result → Shared → Prop} {a : Addr} {g : Nat}
/-- the consumer's turn -/
theorem next_turn (hh : A.handled = none) (hd : A.depth < recursionLimit) (hp : ∀ {σ H s}, Inv X [] σ H s → s.heap.IsGen a g) {E : Value → Shared → Prop} {Q : Option Value → Shared → Prop} (m : Nat) (s : Shared) (hg : s.heap.IsGen a g) (hl : s.heap.NoLimit)
    (hs : ∃ gs, s.gens[g]? = some gs ∧ gs.Goes (model X.prog X.w) A.in1 (RG X c Rf) (YG X c Rf) m (.send .none) (s.setGen g .running))
    (fin : ∀ σ H s', Inv X [] σ H s' → Rf c H → Q none s')
    (out : ∀ b σ H s', b ≠ c → Inv X [] σ H s' → Rf b H → Q (some (.bool b)) s')
    (on : ∀ n s', m = n + 1 → s'.heap.IsGen a g → s'.heap.NoLimit → (∃ gs, s'.gens[g]? = some gs ∧ gs.Goes (model X.prog X.w) A.in1 (RG X c Rf) (YG X c Rf) n (.send .none) (s'.setGen g .running)) → Q (some (.bool c)) s') :
    wpAny (model X.prog X.w) A (pyNext (.ref a)) Q E s := by
  obtain ⟨gs, hgs, hgo⟩ := hs
  have hgl : g < s.gens.size := (Array.getElem?_eq_some_iff.mp hgs).1
  refine wpAny_gsz (n := g + 1) hgl (wpAny_pyNext_genexpQ (P := fun _ _ s => PR X c Rf s) (Y := YG X c Rf) hh hl hd hg hgs hgo (fun v s1 gs' hbare hv => ?_) fun s1 hq h' hk => ?_)
  · intro hsz
    obtain ⟨b, σ, H, rfl, I, hne, heq⟩ := hv
    have I' : Inv X [] σ H (s1.setGen g gs') := Inv.same I rfl rfl (allBare_setGen I.bare hbare)
    by_cases e : b = c
    · subst e
      cases m with
      | zero => exact (heq rfl s1 rfl rfl I.bare).elim
      | succ n =>
        have hsz1 : g < s1.gens.size := by
          have q : (s1.setGen g gs').gens.size = s1.gens.size := setGen_size _ _ _
          have hsz' : g + 1 ≤ (s1.setGen g gs').gens.size := hsz
          omega
        refine on n _ rfl (hp I') I'.nolimit ⟨gs', setGen_at hsz1, heq rfl _ rfl rfl ?_⟩
        exact allBare_setGen (s := s1.setGen g gs') (allBare_setGen I.bare hbare) rfl
    · exact out b σ H _ e I' (hne e)
  · intro _
    obtain ⟨σ, H, I, hq⟩ := hq
    refine fin σ H _ (Inv.same (s := { s1 with heap := h', toks := s1.toks }) (I.kept hk) rfl rfl ?_) hq
    exact allBare_setGen I.bare rfl
theorem drain_all (hh : A.handled = none) (hd : A.depth < recursionLimit) (hp : ∀ {σ H s}, Inv X [] σ H s → s.heap.IsGen a g) (hR : ∀ b σ H s', Inv X [] σ H s' → Rf b H → R (.ok (.ret (.bool b))) s') :
    ∀ (m : Nat) (s : Shared), s.heap.IsGen a g → s.heap.NoLimit → (∃ gs, s.gens[g]? = some gs ∧ gs.Goes (model X.prog X.w) A.in1.in1 (RG X true Rf) (YG X true Rf) m (.send .none) (s.setGen g .running)) →
      codeAny (model X.prog X.w) A (.builtin "all.loop" ⟨[.ref a], []⟩) R s := by
  intro m
  induction m with
  | zero =>
    intro s hg hl hs
    refine codeAny_builtin F.entry_all_loop ?_
    rw [Around.under_plainId F.plain_all_loop _]
    show wpAny _ A.in1 (pyNext (.ref a) >>= _) _ _ s
    refine wpAny_bind (next_turn (A := A.in1) hh hd hp 0 s hg hl hs (fun σ H s' I q => ?_) (fun b σ H s' ne I q => ?_) fun n s' e => by cases e)
    · exact wpAny_bind (wpAny_rule (wpAny_pure (hR true σ H s' I q)))
    · have eb : b = false := by cases b <;> simp_all
      subst eb
      refine wpAny_bind (wpAny_holding (wpAny_truthy_bool ?_))
      refine wpAny_bind (wpAny_letGo ?_)
      simp only [Bool.false_eq_true, if_false]
      exact wpAny_bind (wpAny_rule (wpAny_pure (hR false σ H s' I q)))
  | succ m ih =>
    intro s hg hl hs
    refine codeAny_builtin F.entry_all_loop ?_
    rw [Around.under_plainId F.plain_all_loop _]
    show wpAny _ A.in1 (pyNext (.ref a) >>= _) _ _ s
    refine wpAny_bind (next_turn (A := A.in1) hh hd hp (m + 1) s hg hl hs (fun σ H s' I q => ?_) (fun b σ H s' ne I q => ?_) fun n s' e hg' hl' hs' => ?_)
    · exact wpAny_bind (wpAny_rule (wpAny_pure (hR true σ H s' I q)))
    · have eb : b = false := by cases b <;> simp_all
      subst eb
      refine wpAny_bind (wpAny_holding (wpAny_truthy_bool ?_))
      refine wpAny_bind (wpAny_letGo ?_)
      simp only [Bool.false_eq_true, if_false]
      exact wpAny_bind (wpAny_rule (wpAny_pure (hR false σ H s' I q)))
    · cases e
      refine wpAny_bind (wpAny_holding (wpAny_truthy_bool ?_))
      refine wpAny_bind (wpAny_letGo ?_)
      simp only [if_true]
      exact wpAny_pure ⟨plainId_quiet F.plain_all_loop _, ih s' hg' hl' hs'⟩
theorem drain_any (hh : A.handled = none) (hd : A.depth < recursionLimit) (hp : ∀ {σ H s}, Inv X [] σ H s → s.heap.IsGen a g) (hR : ∀ b σ H s', Inv X [] σ H s' → Rf b H → R (.ok (.ret (.bool b))) s') :
    ∀ (m : Nat) (s : Shared), s.heap.IsGen a g → s.heap.NoLimit → (∃ gs, s.gens[g]? = some gs ∧ gs.Goes (model X.prog X.w) A.in1.in1 (RG X false Rf) (YG X false Rf) m (.send .none) (s.setGen g .running)) →
      codeAny (model X.prog X.w) A (.builtin "any.loop" ⟨[.ref a], []⟩) R s := by
  intro m
  induction m with
  | zero =>
    intro s hg hl hs
    refine codeAny_builtin F.entry_any_loop ?_
    rw [Around.under_plainId F.plain_any_loop _]
    show wpAny _ A.in1 (pyNext (.ref a) >>= _) _ _ s
    refine wpAny_bind (next_turn (A := A.in1) hh hd hp 0 s hg hl hs (fun σ H s' I q => ?_) (fun b σ H s' ne I q => ?_) fun n s' e => by cases e)
    · exact wpAny_bind (wpAny_rule (wpAny_pure (hR false σ H s' I q)))
    · have eb : b = true := by cases b <;> simp_all
      subst eb
      refine wpAny_bind (wpAny_holding (wpAny_truthy_bool ?_))
      refine wpAny_bind (wpAny_letGo ?_)
      simp only [if_true]
      exact wpAny_bind (wpAny_rule (wpAny_pure (hR true σ H s' I q)))
  | succ m ih =>
    intro s hg hl hs
    refine codeAny_builtin F.entry_any_loop ?_
    rw [Around.under_plainId F.plain_any_loop _]
    show wpAny _ A.in1 (pyNext (.ref a) >>= _) _ _ s
    refine wpAny_bind (next_turn (A := A.in1) hh hd hp (m + 1) s hg hl hs (fun σ H s' I q => ?_) (fun b σ H s' ne I q => ?_) fun n s' e hg' hl' hs' => ?_)
    · exact wpAny_bind (wpAny_rule (wpAny_pure (hR false σ H s' I q)))
    · have eb : b = true := by cases b <;> simp_all
      subst eb
      refine wpAny_bind (wpAny_holding (wpAny_truthy_bool ?_))
      refine wpAny_bind (wpAny_letGo ?_)
      simp only [if_true]
      exact wpAny_bind (wpAny_rule (wpAny_pure (hR true σ H s' I q)))
    · cases e
      refine wpAny_bind (wpAny_holding (wpAny_truthy_bool ?_))
      refine wpAny_bind (wpAny_letGo ?_)
      simp only [Bool.false_eq_true, if_false]
      exact wpAny_pure ⟨plainId_quiet F.plain_any_loop _, ih s' hg' hl' hs'⟩
end
end Gx
namespace Gx
open PySem PySem.Spec PyProof.Rows L2 GenW GxR NdefX
/-- the around of the element -/
abbrev garound (X : Cx) (elt tg iter : Expr) (scope : Scope) (pos : Pos) (it : Addr) (env : Env) : Around := X.A.in1.in1.over (gloop elt tg iter scope pos it env) []
theorem room_gen {X : Cx} {elt tg iter : Expr} {scope : Scope} {pos : Pos} {it : Addr} {env : Env} {k : Nat} (hr : Room (k + 1) X.A) : Room k (garound X elt tg iter scope pos it env) := by
  have h1 : (garound X elt tg iter scope pos it env).depth ≤ X.A.depth + 1 := Nat.le_of_eq rfl
  have h2 : (garound X elt tg iter scope pos it env).units ≤ X.A.units + 2 + 3 := Nat.le_of_eq rfl
  refine ⟨hr.hd, ?_, ?_⟩
  · have := hr.dp
    omega
  · have := hr.un
    omega
theorem frames_gen {X : Cx} {elt tg iter : Expr} {scope : Scope} {pos : Pos} {it : Addr} {env : Env} {l : List Env} (h : X.A.frames = some l) : (garound X elt tg iter scope pos it env).frames = some (env :: l) := by
  have e : (garound X elt tg iter scope pos it env).frames = pushEnvs [env] (pushEnvs [] X.A.frames) := rfl
  rw [e, h]
  simp [pushEnvs]
def tAG (c : Bool) (P : Addr) (caps : List (Option Nat)) (wi : TI) (g : TG) (te : TE) : TE := fun σ H Q => wi σ H fun J H1 => TabG H1 P ∧ ∀ H2, Tabbed P H1 H2 → ∃ m, alR c J g te (fun b H' => Q (.bl b) H') m 0 (capt caps σ) H2
section
variable {X : Cx} {pins : List (Addr × Obj)} {σ : L2.St} {H : Hp} {s : Shared}
/-- a generator is made, and consumed by call -/
theorem gen_run {c : Bool} {cd P : Addr} {elt tg iter : Expr} {gpos : Pos} {scope : Scope} {N : List Str} {caps : List (Option Nat)} {wi : TI} {g : TG} {te : TE} {k : Nat} {Q : VK} {Q2 : Value → Shared → Prop}
    (hr : Room (k + 1) X.A) (TB : TabB X.base X.mg cd P) (hcode : X.env.code = .ref cd) (S : GSc X scope) (C : Caps X scope N caps) (hi : PI X tg iter wi)
    (hg : ∀ code s H A ex pn, Room k A → PG (gcx X N scope code s H A ex pn) tg g) (he : ∀ code s H A ex pn, Room k A → PE (gcx X N scope code s H A ex pn) elt te)
    (hs : ∀ v, genFold iter X.env v = pure v) (I : Inv X pins σ H s) (h : tAG c P caps wi g te σ H Q)
    (hQ : ∀ (Xg : Cx) (a : Addr) (gn : Nat) (m : Nat) (s5 : Shared) (R : Bool → Hp → Prop), Xg.prog = X.prog → Xg.w = X.w → (∀ {σ' H' s'}, Inv Xg [] σ' H' s' → s'.heap.IsGen a gn) → s5.heap.IsGen a gn → s5.heap.NoLimit →
      (∃ gs, s5.gens[gn]? = some gs ∧ gs.Goes (model X.prog X.w) X.A.in1.in1 (RG Xg c R) (YG Xg c R) m (.send .none) (s5.setGen gn .running)) →
      (∀ b σ' H' s', Inv Xg [] σ' H' s' → R b H' → EP X pins σ Q (.bool b) s') → Q2 (.ref a) s5) :
    wpAny (model X.prog X.w) X.A (eval (gexp elt tg iter scope gpos) X.env) Q2 X.xe s := by
  have free := S.has I
  refine wpAny_GeneratorExp_make S.co (closure_ok free) S.cell S.dot S.kind hr.depth (thn (hi.run pins s σ H _ I h) fun xv s1 h1 => thn h1 fun itv s2 h2 => ?_) hs
  obtain ⟨it, fp, tn, J, H2, rfl, I2, T, st2, f2, ⟨tab, hT, tri⟩, hR⟩ := h2
  refine ⟨I2.nolimit, ?_⟩
  have atP := I2.hok P _ hT
  refine code_any hcode (TB.code.keeps fun b u e => I2.bk b u e) atP tri fun code hp0 tk tab' ext grown atP' more tri' => ?_
  have keep : ∀ b u, b ≠ P → s2.heap.get? b = some u → hp0.get? b = some u := fun b u n e => ext b u n e
  obtain ⟨more, rfl⟩ := more
  have I3 : Inv X pins σ (upd H2 P (.tbl (tab ++ more))) { s2 with heap := hp0, gens := s2.gens, drawn := s2.drawn, toks := tk } := inv_tab I2 hT keep atP' I2.bare
  have tabbed : Tabbed P H2 (upd H2 P (.tbl (tab ++ more))) := ⟨⟨tab ++ more, upd_same, tri'⟩, fun b n => upd_ne n⟩
  obtain ⟨m, hm⟩ := hR _ tabbed
  obtain ⟨bm, bo, b1, b2, b3, b4, b5, b6, b7, b8⟩ := TB.bm
  have glob : hp0.Ns mainGlobals X.mg := (I2.mod.glob.keeps I2.bk).extBut ext TB.gP
  refine wpAny_builtinsFor (m := X.mg) (by rw [I.ok.glob]; exact glob) b1 b2 (keep _ _ b4 (I2.bk _ _ b5)) b6 b7 b8 ?_
  intro h' hns hsb
  generalize hH3 : upd H2 P (.tbl (tab ++ more)) = H3 at *
  have nP : ∀ b ∈ fp, b ≠ P := fun b hb e => by
    have := (f2 b hb).1
    rw [e, hT] at this
    cases this
  have f3 : ∀ b ∈ fp, FpOk X pins H3 b := fun b hb => ⟨by rw [← hH3, upd_ne (nP b hb)]; exact (f2 b hb).1, (f2 b hb).2⟩
  have st3 : tn 0 hp0 := T.keep _ _ _ st2 fun b hb o e => keep b o (nP b hb) e
  have fo : ∀ b ∈ fp, b < hp0.objs.size := fun b hb => by
    obtain ⟨o, e, _⟩ := T.obj _ _ st3 b hb
    exact Heap.lt_size e
  have hsz : h'.objs.size = hp0.objs.size + 1 := by rw [hsb.1, Heap.size_push]
  have keep' : ∀ b o, hp0.get? b = some o → h'.get? b = some o := fun b o e => hsb.extBut b o (Nat.ne_of_lt (Heap.lt_size e)) (Heap.get?_push_of_some _ e)
  generalize hgo : ({ cls := .type "generator", data := .fields #[.int s2.gens.size 0, .str "<genexpr>" (tk + 1), .str (X.env.qual ++ "<genexpr>") (tk + 1 + 1)] } : Obj) = go
  have hgen : ∀ h : Heap, h.get? h'.objs.size = some go → h.IsGen h'.objs.size s2.gens.size := fun h e => ⟨go, _, _, e, by rw [← hgo], by rw [← hgo], by rw [← hgo]⟩
  have hgd : ∀ v, go.data ≠ .cell v := fun v q => by rw [← hgo] at q; cases q
  have hpushed : (h'.push go).get? h'.objs.size = some go := Heap.get?_push_size _ (by rw [← hgo] <;> rfl)
  let s3 : Shared := { s2 with heap := hp0, gens := s2.gens, drawn := s2.drawn, toks := tk }
  have I3' : Inv X pins σ H3 s3 := I3
  let env := genv X scope s3 code
  let A := garound X elt tg iter scope gpos it env
  let s5 : Shared := { s2 with gens := s2.gens.push (.fresh (gstart elt tg iter scope gpos it env)), toks := tk + 1 + 1 + 1, heap := h'.push go }
  have I5 : Inv (gcx X N scope code s3 H3 A fp [(h'.objs.size, go)]) [] (capt caps σ) H3 s5 :=
    inv_gen S C I3' f3 fo hr.hd (frames_gen I3'.ok.frames) rfl (AllBare.push I2.bare rfl) (fun b o e => Heap.get?_push_of_some _ (keep' b o e)) (hns.push _) (by show hp0.objs.size < h'.objs.size; omega) hpushed hgd
  have kp5 : ∀ b o, hp0.get? b = some o → s5.heap.get? b = some o := fun b o e => Heap.get?_push_of_some _ (keep' b o e)
  have f5 : ∀ b ∈ fp, FpOk (gcx X N scope code s3 H3 A fp [(h'.objs.size, go)]) [] H3 b := fun b hb => by
    obtain ⟨h1, h2, h3, h4, h5, h6⟩ := f3 b hb
    have lt := fo b hb
    refine ⟨h1, Nat.ne_of_lt lt, fun hm => ?_, .inl hb, fun x c e => h5 x c (clo_cm free e), fun p hp e => ?_⟩
    · rcases List.mem_cons.mp (I3'.stkSub b hm) with z | z
      · exact h2 z
      · exact h3 z
    · have e2 : p = (h'.objs.size, go) := by
        rcases List.mem_append.mp hp with z | z
        · exact List.mem_singleton.mp z
        · cases z
      rw [e2] at e
      have e' : h'.objs.size = b := e
      have q : b < h'.objs.size := by
        rw [hsz]
        exact Nat.lt_succ_of_lt lt
      rw [e'] at q
      exact absurd q (Nat.lt_irrefl _)
  refine hQ (gcx X N scope code s3 H3 A fp [(h'.objs.size, go)]) h'.objs.size s2.gens.size m s5 (fun b H' => Q (.bl b) H') rfl rfl (fun {σ' H' s'} J' => hgen _ (J'.pin (h'.objs.size, go) (List.mem_append_left _ (List.mem_singleton.mpr rfl))).1) (hgen _ hpushed) I5.nolimit ⟨_, Array.getElem?_push_size .., rfl, ?_⟩ ?_
  · exact seg_start (X := gcx X N scope code s3 H3 A fp [(h'.objs.size, go)]) (A := X.A.in1.in1) T (hg _ _ _ _ _ _ (room_gen hr)) (he _ _ _ _ _ _ (room_gen hr)) (fun _ _ e => e) rfl S.co rfl m _ H3 _ _ (Inv.same I5 rfl rfl (allBare_setGen I5.bare rfl)) (T.keep _ _ _ st3 fun b hb o e => kp5 b o e) f5 hm
  · intro b σ' H' s' J' hQ'
    refine ⟨.bl b, H', ?_, rfl, hQ'⟩
    obtain ⟨h9, g9, d9, t9, o9⟩ := s'
    have ho : o9 = s3.os := J'.os
    subst ho
    exact I3'.call (ch := fp) J'.base J'.hok J'.bare fun b hb => ⟨(f3 b hb).2.2.2.1, (f3 b hb).2.1, (f3 b hb).2.2.2.2⟩
theorem boot_allB : bootBuiltins "all" = some (.builtin "all") := by decide +kernel
theorem boot_anyB : bootBuiltins "any" = some (.builtin "any") := by decide +kernel
theorem pe_allG {cd P : Addr} {elt tg iter : Expr} {p pos gpos : Pos} {scope : Scope} {N : List Str} {caps : List (Option Nat)} {wi : TI} {g : TG} {te : TE} {k : Nat}
    (hr : Room (k + 1) X.A) (hgl : Gl X "all") (hm : X.mg "all" = none) (TB : TabB X.base X.mg cd P) (hcode : X.env.code = .ref cd) (S : GSc X scope) (C : Caps X scope N caps) (hi : PI X tg iter wi)
    (hg : ∀ code s H A ex pn, Room k A → PG (gcx X N scope code s H A ex pn) tg g) (he : ∀ code s H A ex pn, Room k A → PE (gcx X N scope code s H A ex pn) elt te)
    (hs : ∀ v, genFold iter X.env v = pure v) (hst : starEach [gexp elt tg iter scope gpos] X.env = (false, eval (gexp elt tg iter scope gpos) X.env) :: starEach [] X.env := by rfl) :
    PE X (.Call (.Name "all" p) [gexp elt tg iter scope gpos] [] pos) (tAG true P caps wi g te) := by
  constructor
  intro pins s σ H Q I h
  refine wpAny_Call_Name_kw (ld_blt I hgl hm boot_allB (PyProof.Rows.callWith_builtin1 ?_ hst (by rfl)))
  rw [hst]
  refine Calls.spliced_cons (gen_run hr TB hcode S C hi hg he hs I h fun Xg a gn m s5 R hp hw hpin hgen lim hgo hR => ?_)
  refine Calls.spliced_nil ?_
  refine call_function_tree F.kind_all F.plain_all F.entry_all (F.args_all1 _) ?_
  unfold Builtin.«all»
  refine wpAny_bind (m := oneArg "all" _) (wpAny_pure ?_)
  refine wpAny_bind (wpAny_pyIter_gen hgen ?_)
  refine wpAny_pure ⟨plainId_quiet F.plain_all_loop _, ?_⟩
  have := drain_all (X := Xg) (A := X.A) (R := fun r s' => match r with | .ok (.ret u) => EP X pins σ Q u s' | _ => False) hr.hd hr.depth hpin (fun b σ' H' s' J q => hR b σ' H' s' J q) m s5 hgen lim (by rw [hp, hw]; exact hgo)
  rw [hp, hw] at this
  refine codeAny_mono this fun r s' q => ?_
  split at q
  · exact q
  · exact q.elim
theorem pe_anyG {cd P : Addr} {elt tg iter : Expr} {p pos gpos : Pos} {scope : Scope} {N : List Str} {caps : List (Option Nat)} {wi : TI} {g : TG} {te : TE} {k : Nat}
    (hr : Room (k + 1) X.A) (hgl : Gl X "any") (hm : X.mg "any" = none) (TB : TabB X.base X.mg cd P) (hcode : X.env.code = .ref cd) (S : GSc X scope) (C : Caps X scope N caps) (hi : PI X tg iter wi)
    (hg : ∀ code s H A ex pn, Room k A → PG (gcx X N scope code s H A ex pn) tg g) (he : ∀ code s H A ex pn, Room k A → PE (gcx X N scope code s H A ex pn) elt te)
    (hs : ∀ v, genFold iter X.env v = pure v) (hst : starEach [gexp elt tg iter scope gpos] X.env = (false, eval (gexp elt tg iter scope gpos) X.env) :: starEach [] X.env := by rfl) :
    PE X (.Call (.Name "any" p) [gexp elt tg iter scope gpos] [] pos) (tAG false P caps wi g te) := by
  constructor
  intro pins s σ H Q I h
  refine wpAny_Call_Name_kw (ld_blt I hgl hm boot_anyB (PyProof.Rows.callWith_builtin1 ?_ hst (by rfl)))
  rw [hst]
  refine Calls.spliced_cons (gen_run hr TB hcode S C hi hg he hs I h fun Xg a gn m s5 R hp hw hpin hgen lim hgo hR => ?_)
  refine Calls.spliced_nil ?_
  refine call_function_tree F.kind_any F.plain_any F.entry_any (F.args_any1 _) ?_
  unfold Builtin.«any»
  refine wpAny_bind (m := oneArg "any" _) (wpAny_pure ?_)
  refine wpAny_bind (wpAny_pyIter_gen hgen ?_)
  refine wpAny_pure ⟨plainId_quiet F.plain_any_loop _, ?_⟩
  have := drain_any (X := Xg) (A := X.A) (R := fun r s' => match r with | .ok (.ret u) => EP X pins σ Q u s' | _ => False) hr.hd hr.depth hpin (fun b σ' H' s' J q => hR b σ' H' s' J q) m s5 hgen lim (by rw [hp, hw]; exact hgo)
  rw [hp, hw] at this
  refine codeAny_mono this fun r s' q => ?_
  split at q
  · exact q
  · exact q.elim
end
end Gx
namespace Vl
open PySem L2 PySem.Spec PyProof.Rows Gx
theorem Rep.tabbed {K : PySem.W.Frag} {R F : Hp} {A : List Addr} {σ : L2.St} {H H2 : Hp} {e : En} (r : Rep K R F A σ H e) {P : Addr} (tk : TbK K P) (tb : GxR.Tabbed P H H2) : Rep K R F A σ H2 e := by
  obtain ⟨_, hF, hR, hA⟩ := r.tabs.of P tk
  have ne : ∀ {b : Addr} {o : HO}, F b = some o → b ≠ P := fun h e => by
    rw [e, hF] at h
    cases h
  have nR : ∀ {b : Addr} {o : HO}, R b = some o → b ≠ P := fun h e => by
    rw [e, hR] at h
    cases h
  have nA : ∀ {b : Addr}, b ∈ A → b ≠ P := fun h e => hA (e ▸ h)
  refine ⟨fun b o h => ?_, fun b o h => ?_, r.apart, r.len, r.lenA, r.nodup, fun a ha => ?_, r.slot, fun j ob z => ?_, ⟨fun Q hQ => ?_⟩⟩
  · rw [tb.2 b (ne h)]
    exact r.sub _ _ h
  · rw [tb.2 b (nR h)]
    exact r.keep _ _ h
  · rw [tb.2 a (nA ha)]
    exact r.live a ha
  · obtain ⟨a, h1, h2, h3⟩ := r.store j ob z
    exact ⟨a, h1, h2, by rw [tb.2 a (nA (List.mem_of_getElem? h1))]; exact h3⟩
  · obtain ⟨h1, h2, h3, h4⟩ := r.tabs.of Q hQ
    refine ⟨?_, h2, h3, h4⟩
    by_cases q : Q = P
    · rw [q]
      exact tb.1
    · obtain ⟨ps, g1, g2⟩ := h1
      exact ⟨ps, by rw [tb.2 Q q]; exact g1, g2⟩
theorem Rep.wipeS {K : PySem.W.Frag} {R F : Hp} {A : List Addr} {σ : L2.St} {H : Hp} {e : En} (r : Rep K R F A σ H e) (vs : List Nat) : Rep K R F A σ H (e.wipe vs) :=
  r.weak (by rw [wipeE_len]; exact r.len) fun i s h => r.slot i s (wipeE_at h).2
def capE (caps : List (Option Nat)) (sl : List (Option Sl)) : List (Option Sl) := caps.map fun c => match c with
  | none => none
  | some j => (sl[j]?).getD none
theorem Rep.capt {K : PySem.W.Frag} {R F : Hp} {A : List Addr} {σ : L2.St} {H : Hp} {e : En} (r : Rep K R F A σ H e) (caps : List (Option Nat)) : Rep K R F A (Gx.capt caps σ) H ⟨capE caps e.sl, e.st⟩ := by
  refine r.weak (by unfold capE Gx.capt; rw [List.length_map, List.length_map]) fun i s h => ?_
  unfold capE at h
  rw [List.getElem?_map] at h
  obtain ⟨c, hc, e1⟩ := Option.map_eq_some_iff.mp h
  cases c with
  | none => cases e1
  | some j =>
    replace e1 : (e.sl[j]?).getD none = some s := e1
    have ej : e.sl[j]? = some (some s) := by
      cases z : e.sl[j]? with
      | none => rw [z] at e1; cases e1
      | some w => rw [z] at e1; cases e1; rfl
    obtain ⟨v, h1, h2⟩ := r.slot j s ej
    refine ⟨v, ?_, h2⟩
    unfold Gx.capt
    rw [List.getElem?_map, hc]
    show some ((σ[j]?).getD none) = _
    rw [h1]
    rfl
/-- the turns -/
def ag (c : Bool) (g : VTG) (te : VTE) (chk : Option (En → Prop)) (vs : List Nat) : List D → En → (Bool → En → Prop) → Prop
  | [], e, Kp => wth chk e (Kp c e)
  | d :: ds, e, Kp => wth chk e (g (.val d) e fun e1 => te e1 fun s e2 => match pk s e2 with
    | some (.bool b) => if b = c then ag c g te chk vs ds (e2.wipe vs) Kp else Kp b e2
    | _ => False)
def vAG (c : Bool) (w : VTI) (caps : List (Option Nat)) (vs : List Nat) (g : VTG) (te : VTE) : VTE := fun e Kp => w e fun ds chk e1 => ag c g te chk vs ds ⟨capE caps e1.sl, e1.st⟩ fun b e2 => Kp (.val (.bool b)) ⟨e1.sl, e2.st⟩
theorem lift_ag {K : PySem.W.Frag} {P : Addr} (tk : TbK K P) {c : Bool} {w : VTI} {caps : List (Option Nat)} {vs ws : List Nat} {g : VTG} {te : VTE} (σ : L2.St) (H : Hp) (Q : VK) (h : liftE K (vAG c w caps vs g te) σ H Q) :
    tAG c P caps (liftI K w) (liftG K ws g) (liftE K te) σ H Q := by
  obtain ⟨R, F, A, e, Kp, rep, k, fin⟩ := h
  refine ⟨R, F, A, e, _, rep, k, fun ds chk e1 F1 A1 H1 J k1 l1 p1 rep1 it => ⟨(rep1.tabs.of P tk).1, fun H2 tb => ⟨ds.length + 1, ?_⟩⟩⟩
  have rep2 := rep1.tabbed tk tb
  have out : ∀ b e' F' A' σ' H', Kp (.val (.bool b)) ⟨e1.sl, e'.st⟩ → Le F1 F' → A1 <+: A' → Rep K R F' A' σ' H' e' → Q (.bl b) H' := fun b e' F' A' σ' H' kk l p r => by
    have ro : Rep K R F' A' σ H' ⟨e1.sl, e'.st⟩ := ⟨r.sub, r.keep, r.apart, rep1.len, r.lenA, r.nodup, r.live, fun i s z => by
      obtain ⟨v, h1, h2⟩ := rep1.slot i s z
      exact ⟨v, h1, h2.le l p⟩, r.store, r.tabs⟩
    exact fin (.val (.bool b)) _ (.bl b) F' A' H' kk (l1.trans l) (p1.trans p) ro (.bl b)
  have main : ∀ (n i : Nat) (F' : Hp) (A' : List Addr) (σ' : L2.St) (H' : Hp) (e' : En), ds.length - i = n → i ≤ ds.length → Le F1 F' → A1 <+: A' → Rep K R F' A' σ' H' e' → ag c g te chk vs (ds.drop i) e' (fun b e2 => Kp (.val (.bool b)) ⟨e1.sl, e2.st⟩) →
      alR c J (liftG K ws g) (liftE K te) (fun b H' => Q (.bl b) H') (n + 1) i σ' H' := by
    intro n
    induction n with
    | zero =>
      intro i F' A' σ' H' e' hn hi l p r kk
      have e0 : i = ds.length := by omega
      subst e0
      rw [List.drop_length] at kk
      obtain ⟨kc, kk⟩ := wth_ok kk
      exact .inl ⟨it.stop l p r kc, out c e' F' A' σ' H' kk l p r⟩
    | succ n ih =>
      intro i F' A' σ' H' e' hn hi l p r kk
      have hlt : i < ds.length := by omega
      obtain ⟨d, hd⟩ : ∃ d, ds[i]? = some d := ⟨ds[i], by simp [hlt]⟩
      have hdr : ds.drop i = d :: ds.drop (i + 1) := by
        rw [List.drop_eq_getElem_cons hlt]
        rw [List.getElem?_eq_getElem hlt] at hd
        cases hd
        rfl
      rw [hdr] at kk
      obtain ⟨kc, kk⟩ := wth_ok kk
      obtain ⟨g1, g2⟩ := it.go i d hd l p r kc
      refine .inr ⟨g1, fun x H3 y => ?_⟩
      obtain ⟨F3, l3, rep3, a3⟩ := g2 x H3 y
      refine ⟨R, F3, A', e', .val d, _, rep3, a3, kk, fun e2 σ2 F2 A2 H2 k2 l2 p2 o2 rep2 => ⟨R, F2, A2, e2, _, rep2, k2, fun s e3 v F4 A4 H4 k3 l4 p4 rep4 a4 => ?_⟩⟩
      have lf := ((l.trans l3).trans l2).trans l4
      have pf := (p.trans p2).trans p4
      split at k3
      · rename_i b hb
        refine ⟨b, (rep4.pk a4 hb).bool, ?_⟩
        split at k3
        · rename_i q
          rw [if_pos q]
          exact ih (i + 1) F4 A4 σ2 H4 _ (by omega) hlt lf pf (rep4.wipeS vs) k3
        · rename_i q
          rw [if_neg q]
          exact out b e3 F4 A4 σ2 H4 k3 lf pf rep4
      · exact k3.elim
  exact main ds.length 0 F1 A1 _ H2 _ (Nat.sub_zero _) (Nat.zero_le _) (Le.refl _) (pfx_refl _) (rep2.capt caps) k1
section
variable {X : Cx} {cd P : Addr} {elt tg iter : Expr} {p pos gpos : Pos} {scope : Scope} {N : List Str} {caps : List (Option Nat)} {vs ws : List Nat} {w : VTI} {g : VTG} {te : VTE} {k : Nat}
theorem ve_allG (hr : Room k X.A) (h1 : 1 ≤ k) (hgl : Gl X "all") (hm : X.mg "all" = none) (TB : GxR.TabB X.base X.mg cd P) (tk : TbK X.K P) (hcode : X.env.code = .ref cd) (S : GSc X scope) (C : Caps X scope N caps) (hi : VI X tg iter w)
    (hg : ∀ code s H A ex pn, Room (k - 1) A → VG (gcx X N scope code s H A ex pn) tg ws g) (he : ∀ code s H A ex pn, Room (k - 1) A → VE (gcx X N scope code s H A ex pn) elt te)
    (hs : ∀ v, genFold iter X.env v = pure v := by intro _; rfl) (hst : starEach [gexp elt tg iter scope gpos] X.env = (false, eval (gexp elt tg iter scope gpos) X.env) :: starEach [] X.env := by rfl) :
    VE X (.Call (.Name "all" p) [gexp elt tg iter scope gpos] [] pos) (vAG true w caps vs g te) :=
  PE.imp (pe_allG (k := k - 1) (g := liftG X.K ws g) (te := liftE X.K te) (wi := liftI X.K w) (by rw [Nat.sub_add_cancel h1]; exact hr) hgl hm TB hcode S C hi hg he hs hst) (lift_ag tk)
theorem ve_anyG (hr : Room k X.A) (h1 : 1 ≤ k) (hgl : Gl X "any") (hm : X.mg "any" = none) (TB : GxR.TabB X.base X.mg cd P) (tk : TbK X.K P) (hcode : X.env.code = .ref cd) (S : GSc X scope) (C : Caps X scope N caps) (hi : VI X tg iter w)
    (hg : ∀ code s H A ex pn, Room (k - 1) A → VG (gcx X N scope code s H A ex pn) tg ws g) (he : ∀ code s H A ex pn, Room (k - 1) A → VE (gcx X N scope code s H A ex pn) elt te)
    (hs : ∀ v, genFold iter X.env v = pure v := by intro _; rfl) (hst : starEach [gexp elt tg iter scope gpos] X.env = (false, eval (gexp elt tg iter scope gpos) X.env) :: starEach [] X.env := by rfl) :
    VE X (.Call (.Name "any" p) [gexp elt tg iter scope gpos] [] pos) (vAG false w caps vs g te) :=
  PE.imp (pe_anyG (k := k - 1) (g := liftG X.K ws g) (te := liftE X.K te) (wi := liftI X.K w) (by rw [Nat.sub_add_cancel h1]; exact hr) hgl hm TB hcode S C hi hg he hs hst) (lift_ag tk)
structure GNd (N : List Str) : Prop where
  nd : N.Nodup
def capsB (XN : List Str) (names : List (Str × NameKind)) (N : List Str) (caps : List (Option Nat)) : Bool := caps.length == N.length && (List.range caps.length).all fun i => match caps[i]?, N[i]? with
  | some (some j), some x => decide (XN[j]? = some x) && decide (names.lookup x = some .free)
  | _, _ => true
theorem caps_by {XN : List Str} (e : X.N = XN) (h : capsB XN scope.names N caps = true) : Caps X scope N caps := by
  subst e
  unfold capsB at h
  rw [Bool.and_eq_true] at h
  refine ⟨beq_iff_eq.mp h.1, fun i j x h1 h2 => ?_⟩
  have hi := (List.getElem?_eq_some_iff.mp h1).1
  have := List.all_eq_true.mp h.2 i (List.mem_range.mpr hi)
  rw [h1, h2] at this
  simpa using this
theorem gsc_by {sn : List (Str × NameKind)} (e : X.env.scope.names = sn) (h1 : scope.kind = .function) (h2 : scope.isCoroutine = false) (h3 : scope.names.lookup (".0" : Str) = some NameKind.local) (h4 : (scope.names.all fun y => decide (y.2 ≠ .cell) && (decide (y.2 ≠ .free) || decide (sn.lookup y.1 = some .cell) || decide (sn.lookup y.1 = some .free))) = true) : GSc X scope := by
  subst e
  have h := List.all_eq_true.mp h4
  refine ⟨h1, h2, fun y hy => ?_, h3, fun y hy e => ?_⟩
  · have := h y hy
    rw [Bool.and_eq_true] at this
    exact of_decide_eq_true this.1
  · have := h y hy
    rw [Bool.and_eq_true] at this
    have q := this.2
    rw [e] at q
    simpa using q
end
/-- a def with its code object told -/
structure FunC (K : PySem.W.Frag) (x qual : Str) (st : Stmt) (f : Addr) (fd : FuncData) (c : Addr) : Prop where
  ex : ∃ (oc : Value) (od : Option Addr) (kV doc pm : Value) (an : Option Addr) (ct : Value) (osl : Array (Option Value)),
    fd = PySem.W.fnOf x qual (defArgs st) (defBody st) (defScope st) .none kV doc pm an (.ref c) ct ∧ K.lookup f = some ⟨oc, od, .func fd, osl⟩ ∧ PySem.W.codeIn K (.ref c) qual = true
  kp : PySem.W.keepIn K (.ref f) = true
theorem FunC.fun {K : PySem.W.Frag} {x qual : Str} {st : Stmt} {f : Addr} {fd : FuncData} {c : Addr} (F : FunC K x qual st f fd c) : Fun K x qual st f fd := by
  obtain ⟨oc, od, kV, doc, pm, an, ct, osl, h1, h2, h3⟩ := F.ex
  exact ⟨⟨oc, od, kV, doc, pm, an, _, ct, osl, h1, h2, h3⟩, F.kp⟩
theorem FunC.ok {P : Program} {w : World} {K : PySem.W.Frag} {mg : Str → Option Value} {base : Heap} {x qual : Str} {st : Stmt} {f : Addr} {fd : FuncData} {c : Addr} {N ps : List Str} {k : Nat} {sp : Sp} (F : FunC K x qual st f fd c) (S : FnScope N ps (defScope st))
    (len : ∀ vs H Q E, sp vs H Q E → vs.length = ps.length)
    (body : ∀ (A : Around) (outer : List Env) (s : Shared) (H : Hp) (vs : List V) (Q : VK) (E : XK), Room k (A.deeper (envOfC qual (defScope st) s.heap.objs.size f (.ref c))) → sp vs H Q E →
      ∃ t, PSs (cxOf CX0 P w K mg base N qual (defScope st) f (.ref c) A outer s H E).nox (defBody st) t ∧ t { nx := fun _ H' => Q .non H', rt := Q } (start N vs) H) : FnOk P w K mg base CX0 (k + 1) f fd ps sp := by
  obtain ⟨oc, od, kV, doc, pm, an, ct, osl, rfl, lk, hcd⟩ := F.ex
  refine fn_of lk hcd S len fun A outer s H vs Q E hr hsp => ?_
  obtain ⟨t, h, q⟩ := body A outer s H vs Q E hr hsp
  exact ⟨t, h.nox, q⟩
structure DfC (K : PySem.W.Frag) (mg : Str → Option Value) (base : Heap) (x : Str) (st : Stmt) (ps : List Str) (c P : Addr) : Prop where
  ex : ∃ f fd, FunC K x x st f fd c ∧ Binds K fd ps [] ∧ mg x = some (.ref f)
  TB : GxR.TabB base mg c P
  tk : TbK K P
theorem okFC {P : Program} {w : World} {K : PySem.W.Frag} {mg : Str → Option Value} {base : Heap} {x : Str} {st : Stmt} {N ps : List Str} {k : Nat} {p : VSp} {t : VTS} {c Pt : Addr} (Fd : DfC K mg base x st ps c Pt) (S : FnScope N ps (defScope st)) (len : ∀ ss st Kp, p ss st Kp → ss.length = ps.length)
    (hb : ∀ {f : Addr} {A : Around} {outer : List Env} {s : Shared} {H : Hp} {E : XK}, Room k (A.deeper (envOfC x (defScope st) s.heap.objs.size f (.ref c))) → VSs (cxOf CX0 P w K mg base N x (defScope st) f (.ref c) A outer s H E).nox (defBody st) t)
    (rd : ∀ ss cs Kp, p ss cs Kp → t (dV cs.length Kp) ⟨startV N.length ss, cs.map some⟩) : VFn P w K mg base (k + 1) x ps p := by
  obtain ⟨f, fd, F, b, g⟩ := Fd.ex
  refine ⟨f, fd, ?_, F.kp, b, g⟩
  have lenV : ∀ vs H Q E, spV K p vs H Q E → vs.length = ps.length := fun vs H Q E h => by
    obtain ⟨R, F, A, ss, st, Kp, rep, hp, _⟩ := h
    have := rep.len
    simp at this
    rw [← this]
    exact len _ _ _ hp
  refine F.ok S lenV fun A outer s H vs Q E hr h => ?_
  have ht := hb (f := f) (A := A) (outer := outer) (s := s) (H := H) (E := E) hr
  obtain ⟨R, F0, A0, ss, cs, Kp, rep, hp, fin⟩ := h
  have hl := rep.len
  simp at hl
  refine ⟨_, ht, R, F0, A0, ⟨startV N.length ss, cs.map some⟩, dV cs.length Kp, ?_, rd ss cs Kp hp, ?_⟩
  · refine rep.weak ?_ fun i u hu => ?_
    · show (ss.map some ++ List.replicate (N.length - ss.length) none).length = (vs.map some ++ List.replicate (N.length - vs.length) none).length
      simp only [List.length_append, List.length_map, List.length_replicate, hl]
    · replace hu : (ss.map some ++ List.replicate (N.length - ss.length) none)[i]? = some (some u) := hu
      rcases Nat.lt_or_ge i (ss.map some).length with hi | hi
      · rw [List.getElem?_append_left hi] at hu
        obtain ⟨v, h1, h2⟩ := rep.slot i u hu
        refine ⟨v, ?_, h2⟩
        show (vs.map some ++ List.replicate (N.length - vs.length) none)[i]? = _
        rw [List.getElem?_append_left (by rw [List.length_map] at hi ⊢; omega)]
        exact h1
      · rw [List.getElem?_append_right hi] at hu
        have := List.mem_of_getElem? hu
        have := (List.mem_replicate.mp this).2
        cases this
  · have hn : A0.length = cs.length := by
      have := rep.lenA
      simp at this
      exact this.symm
    exact ⟨fun e' σ' F' A' H' k l p r => ret_ok r (s := .val .none) (v := .non) .non hn l p k fin, fun _ _ _ _ _ k => k.elim, fun _ _ _ _ _ k => k.elim, fun s e' v σ' F' A' H' k l p r a => ret_ok r a hn l p k fin, FinX.no⟩
end Vl
namespace Vl
open PySem L2 PySem.Spec PyProof.Rows
def signsD (z : Str) : List D := z.cps.toList.map fun c => PyData.str ⟨#[c]⟩
def vStrI (t : VTE) : VTI := fun e Kp => t e fun s e1 => match pk s e1 with
  | some (.str z) => Kp (signsD z) none e1
  | _ => False
def opInS (neg : Bool) (s1 s2 : Sl) (e : En) (Kp : KE) : Prop := match pk s1 e, pk s2 e with
  | some (.str x), some (.str z) => ∃ c, x = ⟨#[c]⟩ ∧ Kp (.val (.bool (if neg then !decide (c ∈ z.cps.toList) else decide (c ∈ z.cps.toList)))) e
  | _, _ => False
theorem opInS_one (c : Nat) (z : Str) (neg : Bool) (e : En) (Kp : KE) : opInS neg (.val (.str ⟨#[c]⟩)) (.val (.str z)) e Kp = Kp (.val (.bool (if neg then !decide (c ∈ z.cps.toList) else decide (c ∈ z.cps.toList)))) e := by
  show (∃ c', (⟨#[c]⟩ : Str) = ⟨#[c']⟩ ∧ _) = _
  apply propext
  constructor
  · rintro ⟨c', h, k⟩
    cases h
    exact k
  · intro k
    exact ⟨c, rfl, k⟩
section
variable {X : Cx} {tg a b : Expr} {ta tb : VTE} {pos : Pos}
theorem vi_str (ha : VE X a ta) : VI X tg a (vStrI ta) := PI.imp (pi_str ha) fun σ H Q h => by
  obtain ⟨R, F, A, e, Kp, rep, k, fin⟩ := h
  refine ⟨R, F, A, e, _, rep, k, fun s e1 v F1 A1 H1 k1 l1 p1 rep1 a1 => ?_⟩
  split at k1
  · rename_i z hz
    have hl : (signsD z).length = z.cps.size := by simp [signsD]
    refine ⟨z, (rep1.pk a1 hz).str, fin _ _ _ _ _ _ _ k1 l1 p1 rep1 ⟨fun {R' F' A' σ' H' e'} i d hi l p rep' c => ?_, fun {R' F' A' σ' H' e'} l p rep' c => ?_⟩⟩
    · have hlt : i < z.cps.size := by
        have := (List.getElem?_eq_some_iff.mp hi).1
        omega
      refine ⟨hlt, fun x H3 y => ?_⟩
      obtain ⟨rfl, cc, hc, rfl⟩ := y
      have ed : d = .str ⟨#[cc]⟩ := by
        unfold signsD at hi
        rw [List.getElem?_map, Array.getElem?_toList, hc] at hi
        exact (Option.some.inj hi).symm
      subst ed
      exact ⟨F', Le.refl _, rep', .str _⟩
    · show z.cps.size ≤ (signsD z).length
      omega
  · exact k1.elim
theorem p_inS (neg : Bool) {K : PySem.W.Frag} : Prim2 K (fun x y H Q => ∃ (c : Nat) (z : Str), x = .str ⟨#[c]⟩ ∧ y = .str z ∧ Q (.bl (if neg then !decide (c ∈ z.cps.toList) else decide (c ∈ z.cps.toList))) H) (opInS neg) := by
  intro R F A σ H e x y s1 s2 Kp Q rep a1 a2 ho fin
  unfold opInS at ho
  split at ho
  · rename_i x' z h1 h2
    obtain ⟨c, rfl, k⟩ := ho
    exact ⟨c, z, (rep.pk a1 h1).str, (rep.pk a2 h2).str, fin.val rep k (.bl _)⟩
  · exact ho.elim
theorem ve_inS (ha : VE X a ta) (hb : VE X b tb) (hm : behindInMarks .In b = false := by rfl) : VE X (.Compare a [.In] [b] pos) (v2 (opInS false) ta tb) := ve_cmp (p_inS false) op_in_sign ha hb hm
end
end Vl
namespace Vl
open PySem L2 PySem.Spec PyProof.Rows
/-- the top's record of a def: its code object and its empty table -/
def Told (q : Program) (mg : Str → Option Value) (h : Heap) : Prop :=
  ∀ d ∈ PyProof.Rows.recsOf q, ∃ (f : Addr) (o : Obj) (fd : FuncData) (c P : Addr), mg d.name = some (.ref f) ∧ h.get? f = some o ∧ o.data = .func fd ∧ fd.code = .ref c ∧ h.IsCode c P #[] ∧ h.TableAt c P #[]
theorem Told.tab {q : Program} {mg : Str → Option Value} {h : Heap} (T : Told q mg h) {K : PySem.W.Frag} (X : K.In h) {x : Str} (hx : ((PyProof.Rows.recsOf q).any fun e => e.name == x) = true) {f c P : Addr} (hm : mg x = some (.ref f))
    {oc : Value} {od : Option Addr} {fd : FuncData} {osl : Array (Option Value)} (l : K.lookup f = some ⟨oc, od, .func fd, osl⟩) (hc : fd.code = .ref c)
    {e : Value} {dd : Option Addr} {vs : Array Value} {sl : Array (Option Value)} (lc : K.lookup c = some ⟨e, dd, .fields vs, sl⟩) (h11 : vs[11]? = some (.ref P)) :
    PySem.W.CodeHd h c P ∧ h.get? P = some { cls := .none, data := .fields #[] } := by
  obtain ⟨d, hd, he⟩ := List.any_eq_true.mp hx
  have hn : d.name = x := beq_iff_eq.mp he
  obtain ⟨f1, o1, fd1, c1, P1, g1, g2, g3, g4, g5, g6⟩ := T d hd
  rw [hn, hm] at g1
  obtain rfl : f = f1 := by injection (Option.some.inj g1)
  rw [X _ _ l] at g2
  obtain rfl := Option.some.inj g2
  obtain rfl : fd = fd1 := by injection g3
  rw [hc] at g4
  obtain rfl : c = c1 := by injection g4
  have hd' := PySem.W.CodeHd.of g5 g6
  obtain ⟨⟨o2, v2, e1, _, e3, e4⟩, hP⟩ := g6
  rw [X _ _ lc] at e1
  obtain rfl := Option.some.inj e1
  obtain rfl : vs = v2 := by injection e3
  rw [h11] at e4
  obtain rfl : P = P1 := by injection (Option.some.inj e4)
  exact ⟨hd', hP⟩
theorem walk_tabs {l : PySem.W.OpenLaw} {n k : Nat} {q : Program} {loose : List Str} {XP : (Str → Option Value) → Heap → Prop} {YP : World → Heap → Prop} {d : DefRec} {K : Params → PySem.W.Frag} {CX : World → CXT} {x : Str}
    (hn : l.most = some n) (hn2 : n ≤ sizeLine) (hdf : d.params.defaults = []) (hr : Room k callerA) (hY : ∀ (w : World) (h : Heap), YP w h → (K w.params).In h)
    (F : ∀ (w : World) (mg : Str → Option Value) (fa : Addr) (h : Heap), (K w.params).In h → h.Ns mainGlobals mg → mg d.name = some (.ref fa) → Told q mg h → LamX.LawAtS l w (K w.params) (CX w) k n x mg fa h)
    (hCX : ∀ (w : World) (H : Hp) (s : Shared) (e : Value) (s' : Shared), CX w [] H s (fun _ _ _ => False) e s' → False) :
    PySem.W.WalkO q loose XP YP l.row.toRowW d [] (fun f vs => PySem.call f vs) := by
  refine Att.attach_callB hn hdf ?_
  intro w s0 s1 mg mb fa o pm cd doc a vs ns G Y ho hd hcd hmg hobj hints hlen hbits hg
  have KX := hY w _ Y
  obtain ⟨fd, cs, sp, t1, t2, t3, hb, hsp, hF⟩ := F w mg fa _ KX G.T.g hmg G.T.tab
  exact LamX.law_callTs KX G.T.g G.T.b G.T.builtins G.T.nolimit hg t1 t2 t3 G.T.bmain hobj hints (Nat.le_trans hlen hn2) hr hF hb (fun H hH hS => hsp H a ns hlen hbits hH hS) fun H e s' => hCX w H s1 e s'
theorem tb_conv {base : Heap} {mg : Str → Option Value} {c P : Addr} (h : LamX.TabB base mg c P) : GxR.TabB base mg c P := ⟨h.code, h.bm, h.gP⟩
theorem tbAt_one {K : PySem.W.Frag} {nm : Str} {f c P : Addr} {oc : Value} {od : Option Addr} {fd : FuncData} {sl : Array (Option Value)} {e : Value} {dd : Option Addr} {vs : Array Value} {sx : Array (Option Value)}
    (a : PySem.W.nsIn K mainGlobals nm = some (some (.ref f))) (l : K.lookup f = some ⟨oc, od, .func fd, sl⟩) (hc : fd.code = .ref c) (lc : K.lookup c = some ⟨e, dd, .fields vs, sx⟩) (h11 : vs[11]? = some (.ref P)) {c' P' : Addr} (h : TbAt K nm c' P') : P' = P := by
  obtain ⟨f2, oc2, od2, fd2, sl2, e2, dd2, vs2, sx2, h1, h2, h3, h4, h5⟩ := h
  rw [a] at h1
  cases h1
  rw [l] at h2
  cases h2
  rw [hc] at h3
  cases h3
  rw [lc] at h4
  cases h4
  rw [h11] at h5
  cases h5
  rfl
theorem tbAt_no {K : PySem.W.Frag} {nm : Str} {c P : Addr} (z : PySem.W.nsIn K mainGlobals nm = some none) : ¬ TbAt K nm c P := fun ⟨f2, oc2, od2, fd2, sl2, e2, dd2, vs2, sx2, h1, _⟩ => by
  rw [z] at h1
  cases h1
theorem tabG_of {H : Hp} {P : Addr} (h : H P = some (.tbl #[])) : GxR.TabG H P := ⟨#[], h, trivial⟩
end Vl
namespace Vl
open PySem L2 PySem.Spec PyProof.Rows
section
variable {X : Cx} {a b : Expr} {ta tb : VTE} {pos : Pos}
/-- xs[n] -/
theorem SlAts.atI {K : PySem.W.Frag} {F : Hp} {A : List Addr} {vs : List V} {ss : List Sl} (h : SlAts K F A vs ss) {i : Int} {s : Sl} (e : L2.atI ss i = some s) : ∃ v, L2.atI vs i = some v ∧ SlAt K F A v s := by
  unfold L2.atI at e ⊢
  rw [h.len]
  cases q : ixN ss.length i with
  | none => rw [q] at e; cases e
  | some j =>
    rw [q] at e
    exact slAts_get h e
end
end Vl
namespace Vl
open PySem L2 PySem.Spec PyProof.Rows
end Vl
namespace Vl
open PySem L2 PySem.Spec PyProof.Rows
end Vl
namespace Vl
open PySem L2 PySem.Spec PyProof.Rows
end Vl
namespace Vl
open PySem L2 PySem.Spec PyProof.Rows
structure CDict (K : PySem.W.Frag) (w : World) (mg : Str → Option Value) (C : Str) (tab : Str → D) : Prop where
  ex : ∃ L es n, mg C = some (.ref L) ∧ KDict K w L es n ∧ ∀ z : Str, ∃ (r : Option Value) (v : V), PySem.W.nsIn K L z = some r ∧ RelV v (r.getD .none) ∧ ∀ F, At K F (tab z) v
section
variable {X : Cx} {d : Addr} {es : Array DictEntry} {n : Nat}
def tKGetD (K : PySem.W.Frag) (d : Addr) (td ty : TE) : TE := fun σ H Q => td σ H fun x H1 => x = .ref d ∧ ty σ H1 fun y H2 => ∃ (z : Str) (r : Option Value) (v : V), y = .str z ∧ PySem.W.nsIn K d z = some r ∧ RelV v (r.getD .none) ∧ Q v H2
theorem pe_kgetD {o e : Expr} {apos cpos : Pos} {td ty : TE} (D : KDict X.K X.w d es n) (ho : PE X o td) (he : PE X e ty) (m : M1 X o "get" apos e cpos) : PE X (.Call (.Attribute o "get" apos) [e] [] cpos) (tKGetD X.K d td ty) := by
  constructor
  intro pins s σ H Q I h
  refine wpAny_Call_method m.base m.few m.line PySem.F.plainAttrs_dict PySem.F.slot_dict_get PySem.F.type_dict_get (thn (ho.run pins s σ H _ I h) ?_)
  rintro u s1 ⟨x, H1, I1, rx, rfl, q1⟩
  obtain rfl : u = Value.ref d := rx
  refine ⟨kd_type D I1, fun b hb => ?_, ?_⟩
  · cases hb
    exact ⟨_, I1.kIn _ _ D.at_, rfl⟩
  · rw [m.trees]
    refine Calls.callWith_builtin rfl (Calls.evalArgs_plain (Calls.spliced_cons (thn (he.run pins s1 σ H1 _ I1 q1) ?_)))
    rintro iv s2 ⟨y, H2, I2, ry, z, r, v, rfl, er, rv, q2⟩
    obtain ⟨t, rfl⟩ := ry
    refine Calls.spliced_nil ?_
    have M := PySem.W.mapOf_K (prog := X.prog) (w := X.w) I2.kIn D.at_ D.lit
    refine call_meetsIn PySem.F.slot_dict_get M.typeIs PySem.F.entry_dict_get (PySem.F.args_dict_get_2 _ _) (meets_dict_get _ d (PySem.strKind_is X.prog X.w z t) D.low) ⟨_, M, ?_⟩
    rw [PySem.W.find_K D.at_ er]
    exact ⟨v, H2, I2.tok _, rv, q2⟩
end
def vKGet (tab : Str → D) (t : VTE) : VTE := fun e Kp => t e fun s e1 => match pk s e1 with
  | some (.str z) => Kp (.val (tab z)) e1
  | _ => False
theorem ve_kget {X : Cx} {C : Str} {tab : Str → D} {a : Expr} {ta : VTE} {np apos cpos : Pos} (B : CDict X.K X.w X.mg C tab) (hg : Gl X C) (he : VE X a ta) (hdb : (C == ("__debug__" : Str)) = false := by decide)
    (m : M1 X (.Name C np) "get" apos a cpos := by exact ⟨by rfl, by rfl, by rfl, by rfl⟩) : VE X (.Call (.Attribute (.Name C np) "get" apos) [a] [] cpos) (vKGet tab ta) := by
  obtain ⟨L, es, n, gC, D, tb⟩ := B.ex
  exact PE.imp (pe_kgetD D (pe_glob (v := .ref L) hg gC rfl hdb) he m) fun σ H Q h => by
    obtain ⟨R, F, A, e, Kp, rep, k, fin⟩ := h
    refine ⟨rfl, R, F, A, e, _, rep, k, fun s e1 v F1 A1 H1 k1 l1 p1 rep1 a1 => ?_⟩
    split at k1
    · rename_i z hz
      obtain ⟨r, v, e1, e2, e3⟩ := tb z
      exact ⟨z, r, v, (rep1.pk a1 hz).str, e1, e2, (fin.tr l1 p1).val rep1 k1 (e3 _)⟩
    · exact k1.elim
/-- a dict of texts to numbers -/
def tabI (kvs : List (Str × Int)) (z : Str) : D := match kvs.lookup z with
  | some i => .int i
  | none => .none
def IntEs : List DictEntry → List (Str × Int) → Prop
  | [], [] => True
  | e :: es, (k, i) :: kvs => (∃ h t u, e = ⟨h, .str k t, .int i u⟩) ∧ IntEs es kvs
  | _, _ => False
theorem intEs_find (z : Str) : ∀ (es : List DictEntry) (kvs : List (Str × Int)), IntEs es kvs → es.any (·.refKey) = false ∧ match kvs.lookup z with
    | some i => ∃ e u, es.find? (·.key.isStr z) = some e ∧ e.val = .int i u
    | none => es.find? (·.key.isStr z) = none
  | [], [], _ => ⟨rfl, rfl⟩
  | e :: es, (k, i) :: kvs, h => by
    obtain ⟨⟨h0, t, u, rfl⟩, hr⟩ := h
    obtain ⟨i1, i2⟩ := intEs_find z es kvs hr
    refine ⟨by rw [List.any_cons, i1]; rfl, ?_⟩
    rw [List.find?_cons, List.lookup_cons]
    by_cases e1 : z = k
    · subst e1
      have e2 : (z == z) = true := by simp
      have e3 : (Value.str z t).isStr z = true := by rw [PySem.W.isStr_of]; exact e2
      simp only [e2, e3]
      exact ⟨_, _, rfl, rfl⟩
    · have e2 : (z == k) = false := by simpa using e1
      have e3 : (Value.str k t).isStr z = false := by
        rw [PySem.W.isStr_of]
        show (k == z) = false
        simpa using fun q => e1 (Eq.symm q)
      simp only [e2, e3]
      exact i2
  | [], _ :: _, h => h.elim
  | _ :: _, [], h => h.elim
theorem cdict_mk {K : PySem.W.Frag} {w : World} {mg : Str → Option Value} {C : Str} {L : Addr} {es : Array DictEntry} {n : Nat} {kvs : List (Str × Int)} (gC : mg C = some (.ref L)) (lL : K.lookup L = some ⟨.type "dict", none, .dict es n, #[]⟩) (kL : PySem.W.KeysLit w.params es.toList) (sL : (L == sysModules) = false)
    (h : IntEs es.toList kvs) : CDict K w mg C (tabI kvs) := by
  refine ⟨L, es, n, gC, ⟨lL, kL, sL⟩, fun z => ?_⟩
  obtain ⟨h1, h2⟩ := intEs_find z _ _ h
  unfold PySem.W.nsIn tabI
  rw [lL]
  cases hk : kvs.lookup z with
  | some i =>
    rw [hk] at h2
    obtain ⟨e, u, h3, h4⟩ := h2
    simp only [h3, h4]
    exact ⟨_, .int i, rfl, ⟨u, rfl⟩, fun F => .int i⟩
  | none =>
    rw [hk] at h2
    simp only at h2
    simp only [h2, h1]
    exact ⟨_, .non, rfl, rfl, fun F => .non⟩
end Vl
namespace Vl
open PySem L2 PySem.Spec PyProof.Rows Builtin PySem.SeqAt PySem.MeetsSeq
end Vl
namespace Vl
open PySem L2 PySem.Spec PyProof.Rows
structure Ways2 (P : Program) (w : World) (K : PySem.W.Frag) (mg : Str → Option Value) (base : Heap) (k : Nat) (x1 x2 : Str) (f1 f2 : Addr) (p : VSp) : Prop where
  m1 : mg x1 = some (.ref f1)
  m2 : mg x2 = some (.ref f2)
  G : ∀ f ∈ [f1, f2], ∃ fd ps, FnOk P w K mg base CX0 k f fd ps (spV K p) ∧ PySem.W.keepIn K (.ref f) = true ∧ Binds K fd ps []
def wayT (fs : List Addr) (p : VSp) (f : Addr) : Option VSp := if f ∈ fs then some p else none
theorem Ways2.of {P : Program} {w : World} {K : PySem.W.Frag} {mg : Str → Option Value} {base : Heap} {k : Nat} {x1 x2 : Str} {ps qs : List Str} {p : VSp} (G1 : VFn P w K mg base k x1 ps p) (G2 : VFn P w K mg base k x2 qs p) : ∃ f1 f2, Ways2 P w K mg base k x1 x2 f1 f2 p := by
  obtain ⟨f1, d1, a1, b1, c1, e1⟩ := G1.ex
  obtain ⟨f2, d2, a2, b2, c2, e2⟩ := G2.ex
  refine ⟨f1, f2, e1, e2, fun f hf => ?_⟩
  simp only [List.mem_cons, List.not_mem_nil, or_false] at hf
  rcases hf with rfl | rfl
  · exact ⟨d1, _, a1, b1, c1⟩
  · exact ⟨d2, _, a2, b2, c2⟩
theorem Ways2.call {P : Program} {w : World} {K : PySem.W.Frag} {mg : Str → Option Value} {base : Heap} {k : Nat} {x1 x2 : Str} {f1 f2 : Addr} {p : VSp} (W : Ways2 P w K mg base k x1 x2 f1 f2 p) :
    ∀ f q, wayT [f1, f2] p f = some q → ∃ fd ps, FnOk P w K mg base CX0 k f fd ps (spV K q) ∧ PySem.W.keepIn K (.ref f) = true ∧ Binds K fd ps [] := fun f q h => by
  unfold wayT at h
  split at h
  · cases h
    exact W.G f (by assumption)
  · cases h
theorem Ways2.pa {X : Cx} {k : Nat} {x1 x2 : Str} {f1 f2 : Addr} {p : VSp} {q1 q2 : Pos} (W : Ways2 X.prog X.w X.K X.mg X.base k x1 x2 f1 f2 p) (g1 : Gl X x1) (g2 : Gl X x2)
    (h1 : (x1 == ("__debug__" : Str)) = false := by decide) (h2 : (x2 == ("__debug__" : Str)) = false := by decide)
    (s1 : starEach [.Name x1 q1, .Name x2 q2] X.env = (false, eval (.Name x1 q1) X.env) :: starEach [.Name x2 q2] X.env := by rfl)
    (s2 : starEach [.Name x2 q2] X.env = (false, eval (.Name x2 q2) X.env) :: starEach [] X.env := by rfl) : PA X [.Name x1 q1, .Name x2 q2] (fun _ H Q => Q ([f1, f2].map V.ref) H) :=
  pa_cons (pe_glob (v := .ref f1) g1 W.m1 rfl h1) (pa_cons (pe_glob (v := .ref f2) g2 W.m2 rfl h2) pa_nil s2) s1
end Vl
namespace Vl
open PySem L2 PySem.Spec PyProof.Rows
end Vl
namespace Vl
open PySem L2 PySem.Spec PyProof.Rows
theorem VFn.weak {P : Program} {w : World} {K : PySem.W.Frag} {mg : Str → Option Value} {base : Heap} {k : Nat} {x : Str} {ps : List Str} {p p' : VSp} (G : VFn P w K mg base k x ps p) (h : ∀ ss st Kp, p' ss st Kp → p ss st Kp) : VFn P w K mg base k x ps p' := by
  obtain ⟨f, fd, F, a, b, c⟩ := G.ex
  refine ⟨f, fd, F.imp (fun vs H Q E z => ?_), a, b, c⟩
  obtain ⟨R, F0, A, ss, st, Kp, rep, hp, fin⟩ := z
  exact ⟨R, F0, A, ss, st, Kp, rep, h _ _ _ hp, fin⟩
end Vl
namespace Vl
open PySem L2 PySem.Spec PyProof.Rows PySem.SeqAt
end Vl
namespace Vl
open PySem L2 PySem.Spec PyProof.Rows
end Vl
namespace Vl
open PySem L2 PySem.Spec PyProof.Rows
structure CDt (K : PySem.W.Frag) (w : World) (mg : Str → Option Value) (C : Str) (tab : Str → Option D) : Prop where
  ex : ∃ L es n, mg C = some (.ref L) ∧ KDict K w L es n ∧ ∀ z : Str, ∃ r : Option Value, PySem.W.nsIn K L z = some r ∧ r.isSome = (tab z).isSome ∧ ∀ d, tab z = some d → ∃ u v, r = some u ∧ RelV v u ∧ ∀ F, At K F d v
/-- what stands in such a dict -/
def EntD (e : DictEntry) (k : Str) : D → Prop
  | .int i => ∃ h t u, e = ⟨h, .str k t, .int i u⟩
  | .str x => ∃ h t u, e = ⟨h, .str k t, .str x u⟩
  | _ => False
def EntsD : List DictEntry → List (Str × D) → Prop
  | [], [] => True
  | e :: es, (k, d) :: kvs => EntD e k d ∧ EntsD es kvs
  | _, _ => False
theorem EntD.shape {e : DictEntry} {k : Str} {d : D} (h : EntD e k d) : ∃ h t u v, e = ⟨h, .str k t, u⟩ ∧ RelV v u ∧ ∀ (K : PySem.W.Frag) F, At K F d v := by
  cases d <;> first | exact h.elim | skip
  · obtain ⟨h, t, u, rfl⟩ := h
    exact ⟨h, t, _, .int _, rfl, ⟨u, rfl⟩, fun K F => .int _⟩
  · obtain ⟨h, t, u, rfl⟩ := h
    exact ⟨h, t, _, .str _, rfl, ⟨u, rfl⟩, fun K F => .str _⟩
theorem entsD_find (z : Str) : ∀ (es : List DictEntry) (kvs : List (Str × D)), EntsD es kvs → es.any (·.refKey) = false ∧ ((es.find? (·.key.isStr z)).isSome = (kvs.lookup z).isSome ∧ ∀ d, kvs.lookup z = some d → ∃ e v, es.find? (·.key.isStr z) = some e ∧ RelV v e.val ∧ ∀ (K : PySem.W.Frag) F, At K F d v)
  | [], [], _ => ⟨rfl, rfl, fun d h => by cases h⟩
  | e :: es, (k, d0) :: kvs, h => by
    obtain ⟨he, hr⟩ := h
    obtain ⟨h0, t, u, v, rfl, rv, ha⟩ := he.shape
    obtain ⟨i1, i2, i3⟩ := entsD_find z es kvs hr
    refine ⟨by rw [List.any_cons, i1]; rfl, ?_⟩
    rw [List.find?_cons, List.lookup_cons]
    by_cases e1 : z = k
    · subst e1
      have e2 : (z == z) = true := by simp
      have e3 : (Value.str z t).isStr z = true := by rw [PySem.W.isStr_of]; exact e2
      simp only [e2, e3]
      exact ⟨rfl, fun d hd => by cases hd; exact ⟨_, v, rfl, rv, ha⟩⟩
    · have e2 : (z == k) = false := by simpa using e1
      have e3 : (Value.str k t).isStr z = false := by
        rw [PySem.W.isStr_of]
        show (k == z) = false
        simpa using fun q => e1 (Eq.symm q)
      simp only [e2, e3]
      exact ⟨i2, i3⟩
  | [], _ :: _, h => h.elim
  | _ :: _, [], h => h.elim
theorem cdt_mk {K : PySem.W.Frag} {w : World} {mg : Str → Option Value} {C : Str} {L : Addr} {es : Array DictEntry} {n : Nat} {kvs : List (Str × D)} (gC : mg C = some (.ref L)) (lL : K.lookup L = some ⟨.type "dict", none, .dict es n, #[]⟩) (kL : PySem.W.KeysLit w.params es.toList) (sL : (L == sysModules) = false)
    (h : EntsD es.toList kvs) : CDt K w mg C (fun z => kvs.lookup z) := by
  refine ⟨L, es, n, gC, ⟨lL, kL, sL⟩, fun z => ?_⟩
  obtain ⟨h1, h2, h3⟩ := entsD_find z _ _ h
  unfold PySem.W.nsIn
  rw [lL]
  cases hf : es.toList.find? (·.key.isStr z) with
  | none =>
    rw [hf] at h2
    simp only [hf, h1]
    refine ⟨none, rfl, h2, fun d hd => ?_⟩
    obtain ⟨e, v, q, _⟩ := h3 d hd
    rw [hf] at q
    cases q
  | some e =>
    rw [hf] at h2
    simp only [hf, h1]
    refine ⟨some e.val, rfl, h2, fun d hd => ?_⟩
    obtain ⟨e', v, q, rv, ha⟩ := h3 d hd
    rw [hf] at q
    cases q
    exact ⟨_, v, rfl, rv, ha K⟩
section
variable {X : Cx} {C : Str} {tab : Str → Option D} {a : Expr} {ta : VTE} {np pos : Pos}
def vKIx (tab : Str → Option D) (t : VTE) : VTE := fun e Kp => t e fun s e1 => match pk s e1 with
  | some (.str z) => kOpt (tab z) fun d => Kp (.val d) e1
  | _ => False
theorem ve_kix (B : CDt X.K X.w X.mg C tab) (hg : Gl X C) (he : VE X a ta) (hdb : (C == ("__debug__" : Str)) = false := by decide) (hs : PlainIx a := by exact fun _ _ => rfl) : VE X (.Subscript (.Name C np) a pos) (vKIx tab ta) := by
  obtain ⟨L, es, n, gC, D, tb⟩ := B.ex
  exact PE.imp (pe_ix ix_kdict (pe_glob (v := .ref L) hg gC rfl hdb) he hs) fun σ H Q h => by
    obtain ⟨R, F, A, e, Kp, rep, k, fin⟩ := h
    refine ⟨R, F, A, e, _, rep, k, fun s e1 v F1 A1 H1 k1 l1 p1 rep1 a1 => ?_⟩
    split at k1
    · rename_i z hz
      obtain ⟨d, hd, k2⟩ := kOpt_ex k1
      obtain ⟨r, q1, q2, q3⟩ := tb z
      obtain ⟨u, v0, rfl, rv, ha⟩ := q3 d hd
      exact ⟨L, z, v0, rfl, (rep1.pk a1 hz).str, ⟨es, n, u, D.at_, D.lit, q1, rv⟩, (fin.tr l1 p1).val rep1 k2 (ha _)⟩
    · exact k1.elim
end
end Vl
namespace Vl
open PySem L2 PySem.Spec PyProof.Rows
end Vl
namespace Vl
open PySem L2 PySem.Spec PyProof.Rows
end Vl
namespace Vl
open PySem L2 PySem.Spec PyProof.Rows PySem.SeqAt PySem.MeetsSeq
section
variable {A : Around} {s : Shared}
/-- a dict without entries -/
def No0 (s : Shared) (a : Addr) : Prop := (a == sysModules) = false ∧ ∃ o ep, s.heap.get? a = some o ∧ o.ExactDict ∧ o.data = .dict #[] ep
theorem No0.of {P : Program} {w : World} {a : Addr} (n : No0 s a) : s.heap.DictOf (mixKind P w) a [] := by
  obtain ⟨_, o, ep, h1, h2, h3⟩ := n
  exact ⟨o, #[], ep, h1, h2, h3, (fun i e => absurd e (by simp)), .nil, .nil⟩
end
end Vl
namespace Vl
open PySem L2 PySem.Spec PyProof.Rows
end Vl
namespace Vl
open PySem L2 PySem.Spec PyProof.Rows
theorem vals_strs : ∀ {vs : List Value} {zs : List Str}, StrsAre vs zs → Vals (zs.map V.str) vs
  | _, _, .nil => .nil
  | _, _, .cons x t r => .cons ⟨t, rfl⟩ (vals_strs r)
theorem vconst_strs {K : PySem.W.Frag} {mg : Str → Option Value} {x : Str} {L : Addr} {od : Option Addr} {vs : List Value} {n : Nat} {sl : Array (Option Value)} {zs : List Str} (hm : mg x = some (.ref L)) (l : K.lookup L = some ⟨.type "tuple", od, .seq vs.toArray n, sl⟩) (r : StrsAre vs zs) (hl : vs.length ≤ 1000) :
    VConst K mg x (.tuple (zs.map .str)) := ⟨.ref L, .ref L, hm, rfl, fun F => .tup (.inr ⟨_, vs.toArray, n, l, rfl, rfl, by rw [List.size_toArray]; exact Nat.le_trans hl (by decide), by simpa using vals_strs r⟩) (strs_at zs)⟩
end Vl
namespace Vl
open PySem L2 PySem.Spec PyProof.Rows
section
variable {X : Cx} {a : Expr} {pos : Pos}
theorem call_lenM : CallR X (.builtin "len") (fun xs H Q => ∃ a kvs, xs = [.ref a] ∧ H a = some (.dK kvs) ∧ Q (.int kvs.length) H) := by
  intro pins s σ H xs us Q I r h
  obtain ⟨a, kvs, rfl, e, q⟩ := h
  obtain ⟨u, rfl, rx⟩ := vals1 r
  cases rx
  exact d_len I (.inl e) fun t s' I' => ⟨.int kvs.length, H, I', ⟨t, rfl⟩, q⟩
def opLenM (ss : List Sl) (e : En) (Kp : KE) : Prop := match ss with
  | [.obj j] => (match e.st[j]? with
    | some (some (.m kvs)) => Kp (.val (.int (kvs.length : Nat))) e
    | _ => False)
  | _ => False
theorem p_lenM {K : PySem.W.Frag} : PrimN K (fun xs H Q => ∃ a kvs, xs = [.ref a] ∧ H a = some (.dK kvs) ∧ Q (.int kvs.length) H) opLenM := by
  intro R F A σ H e xs ss Kp Q rep a1 ho fin
  unfold opLenM at ho
  split at ho
  · rename_i j
    obtain ⟨x, rfl, a2⟩ := a1.one
    obtain ⟨p, ep, rfl⟩ := a2
    split at ho
    · rename_i kvs hs
      obtain ⟨p', q1, hF, vs, q2, kv⟩ := rep.store j _ hs
      rw [ep] at q1
      cases q1
      rw [← kv.len] at ho
      exact ⟨_, vs, rfl, q2, fin.val rep ho (.int _)⟩
    · exact ho.elim
  · exact ho.elim
theorem ve_lenM {p : Pos} {t : VTA} (hg : Gl X "len") (hm : X.mg "len" = none) (ha : VA X [a] t) (he : starEach [a] X.env = (false, eval a X.env) :: starEach [] X.env := by rfl) : VE X (.Call (.Name "len" p) [a] [] pos) (vN opLenM t) :=
  ve_blt p_lenM call_lenM hg hm PySem.boot_len ha (by decide) (by decide) he
end
end Vl
namespace Kf
open PySem L2 Vl PySem.Spec PyProof.Rows
local macro_rules
  | `(tactic| ktr_call "q0" ⟨$xs,*⟩) => `(tactic| simp only [$[$xs:term],*, flatD, List.any_cons, List.any_nil, eqv_str, eqv_int, eqv_ti, eqv_it, eqv_st, eqv_ts, cut1, Bool.or_false, Bool.or_true, Bool.and_self, Bool.and_true, Bool.and_false, Bool.false_or, Bool.true_or, and_self, ofs_inj, ofs_app, ofs_len, String.reduceEq, String.reduceNe, String.reduceAppend, decide_true, decide_false, Bool.not_true, Bool.not_false, sz0, sz1, sz2, sz3, sz4, sz5, sz6, sz7, sz8, sz9, sz10, sz11, sz12, sz13, sz14, sz15, sz16, sz17, sz18, sz19, sz20, sz21, sz22, sz23, sz24, sz25, cpow1018, true_and, and_true, Nat.reduceAdd, Nat.reduceLT, Nat.reduceSub, Int.reduceNe, Int.reduceEq, Int.reduceLT, Int.reduceLE, Int.reduceToNat, ne_eq, not_false_eq_true, List.length_map, Nat.lt_irrefl, dV_nx, dV_rt, at0, at1, at2, at3, ix20, ix21, vSeq, vIfS, vTest, vTruth, truth, v2, v1, vN, vCons, vNil, vStar, vVar, vC, xIx, Vl.opI0, Vl.opI, pk, vSet, vAug, vAsg, xgSub, vRet, vRetN, vNext, vDrop, vBreak, vCont, asD, asDs, opMod, opDiv, opMul2, Vl.opAdd, Vl.opAddO, opSub, opPow, opLt, Vl.opLe, opGt, Vl.opGe, xEq, okEq_str, okEq_int, xIn, okIn, inD, xIsN, isNone_n, isNone_t, isNone_l, isNone_i, isNone_s, isMo, mob, pkm, gModI, gDivI, gSubI, gMulI, gPowI, gGt, gLt, gLe, gGe, vNotT, vAndT, vOrT, vAndV, vOrV, opNot, opNotG, vIfE, opTup, opLst, opLstO, Vl.opLen, Vl.opInt, opList, opListO, opTuple, opII, gMax, gMin, vM, vM0, isT, xPop, Vl.opAppend, opExtend, opJoin, vgName, vgTup, vgCons, vgNil, kOpt_some, kOpn_some, kOps_some, Vl.opSum, Vl.opInsert, Vl.opIndex, opDivmod, vSl, vPart, vNoPart, opSl, opSlO, opRev, opCallK, ownD, ownO, objs, renum, uniq, getS, putS, vCall0, vFor, vForW, En.wk, vSeqI, vTupI, vRng1, vRng2, vEnum, vZip, chkOf, vLcK, vYes, finD, finO, En.wipe, wipeE, En.trim, trimS, dropNone, clr_n, clr_v, clr_k, clr_o, wth, Vl.ret, takeS, startV, List.map_cons, List.map_nil, List.length_cons, List.length_nil, List.cons_append, List.nil_append, List.replicate, List.getElem?_cons_succ, List.getElem?_cons_zero, List.getElem?_nil, List.set_cons_succ, List.set_cons_zero, List.set_nil, List.all_nil, List.all_cons, Bool.true_and, Option.map_some, Option.map_none, if_true, if_false, decide_eq_true_eq, Bool.false_eq_true, List.take_succ_cons, List.take_zero, List.take_nil, List.drop_succ_cons, List.drop_zero, List.drop_nil, reduceIte, reduceCtorEq])
  | `(tactic| ktr_call "q0" "0") => `(tactic| simp only [flatD, List.any_cons, List.any_nil, eqv_str, eqv_int, eqv_ti, eqv_it, eqv_st, eqv_ts, cut1, Bool.or_false, Bool.or_true, Bool.and_self, Bool.and_true, Bool.and_false, Bool.false_or, Bool.true_or, and_self, ofs_inj, ofs_app, ofs_len, String.reduceEq, String.reduceNe, String.reduceAppend, decide_true, decide_false, Bool.not_true, Bool.not_false, sz0, sz1, sz2, sz3, sz4, sz5, sz6, sz7, sz8, sz9, sz10, sz11, sz12, sz13, sz14, sz15, sz16, sz17, sz18, sz19, sz20, sz21, sz22, sz23, sz24, sz25, cpow1018, true_and, and_true, Nat.reduceAdd, Nat.reduceLT, Nat.reduceSub, Int.reduceNe, Int.reduceEq, Int.reduceLT, Int.reduceLE, Int.reduceToNat, ne_eq, not_false_eq_true, List.length_map, Nat.lt_irrefl, dV_nx, dV_rt, at0, at1, at2, at3, ix20, ix21, vSeq, vIfS, vTest, vTruth, truth, v2, v1, vN, vCons, vNil, vStar, vVar, vC, xIx, Vl.opI0, Vl.opI, pk, vSet, vAug, vAsg, xgSub, vRet, vRetN, vNext, vDrop, vBreak, vCont, asD, asDs, opMod, opDiv, opMul2, Vl.opAdd, Vl.opAddO, opSub, opPow, opLt, Vl.opLe, opGt, Vl.opGe, xEq, okEq_str, okEq_int, xIn, okIn, inD, xIsN, isNone_n, isNone_t, isNone_l, isNone_i, isNone_s, isMo, mob, pkm, gModI, gDivI, gSubI, gMulI, gPowI, gGt, gLt, gLe, gGe, vNotT, vAndT, vOrT, vAndV, vOrV, opNot, opNotG, vIfE, opTup, opLst, opLstO, Vl.opLen, Vl.opInt, opList, opListO, opTuple, opII, gMax, gMin, vM, vM0, isT, xPop, Vl.opAppend, opExtend, opJoin, vgName, vgTup, vgCons, vgNil, kOpt_some, kOpn_some, kOps_some, Vl.opSum, Vl.opInsert, Vl.opIndex, opDivmod, vSl, vPart, vNoPart, opSl, opSlO, opRev, opCallK, ownD, ownO, objs, renum, uniq, getS, putS, vCall0, vFor, vForW, En.wk, vSeqI, vTupI, vRng1, vRng2, vEnum, vZip, chkOf, vLcK, vYes, finD, finO, En.wipe, wipeE, En.trim, trimS, dropNone, clr_n, clr_v, clr_k, clr_o, wth, Vl.ret, takeS, startV, List.map_cons, List.map_nil, List.length_cons, List.length_nil, List.cons_append, List.nil_append, List.replicate, List.getElem?_cons_succ, List.getElem?_cons_zero, List.getElem?_nil, List.set_cons_succ, List.set_cons_zero, List.set_nil, List.all_nil, List.all_cons, Bool.true_and, Option.map_some, Option.map_none, if_true, if_false, decide_eq_true_eq, Bool.false_eq_true, List.take_succ_cons, List.take_zero, List.take_nil, List.drop_succ_cons, List.drop_zero, List.drop_nil, reduceIte, reduceCtorEq])
local macro_rules
  | `(tactic| ktr_call "q1" ⟨$xs,*⟩) => `(tactic| simp only [$[$xs:term],*, flatD, List.any_cons, List.any_nil, eqv_str, eqv_int, eqv_ti, eqv_it, eqv_st, eqv_ts, cut1, Bool.or_false, Bool.or_true, Bool.and_self, Bool.and_true, Bool.and_false, Bool.false_or, Bool.true_or, and_self, ofs_inj, ofs_app, ofs_len, String.reduceEq, String.reduceNe, String.reduceAppend, decide_true, decide_false, Bool.not_true, Bool.not_false, sz0, sz1, sz2, sz3, sz4, sz5, sz6, sz7, sz8, sz9, sz10, sz11, sz12, sz13, sz14, sz15, sz16, sz17, sz18, sz19, sz20, sz21, sz22, sz23, sz24, sz25, cpow1018, true_and, and_true, Nat.reduceAdd, Nat.reduceLT, Nat.reduceSub, Int.reduceNe, Int.reduceEq, Int.reduceLT, Int.reduceLE, Int.reduceToNat, ne_eq, not_false_eq_true, List.length_map, Nat.lt_irrefl, dV_nx, dV_rt, at0, at1, at2, at3, ix20, ix21, vSeq, vIfS, vTest, vTruth, truth, v2, v1, vN, vCons, vNil, vStar, vVar, vC, xIx, Vl.opI0, Vl.opI, pk, vSet, vAug, vAsg, xgSub, vRet, vRetN, vNext_mk, vDrop, vBreak, vCont, asD, asDs, opMod, opDiv, opMul2, Vl.opAdd, Vl.opAddO, opSub, opPow, opLt, Vl.opLe, opGt, Vl.opGe, xEq, okEq_str, okEq_int, xIn, okIn, inD, xIsN, isNone_n, isNone_t, isNone_l, isNone_i, isNone_s, isMo, mob, pkm, gModI, gDivI, gSubI, gMulI, gPowI, gGt, gLt, gLe, gGe, vNotT, vAndT, vOrT, vAndV, vOrV, opNot, opNotG, vIfE, opTup, opLst, opLstO, Vl.opLen, Vl.opInt, opList, opListO, opTuple, opII, gMax, gMin, vM, vM0, isT, xPop, Vl.opAppend, opExtend, opJoin, vgName, vgTup, vgCons, vgNil, kOpt_some, kOpn_some, kOps_some, Vl.opSum, Vl.opInsert, Vl.opIndex, opDivmod, vSl, vPart, vNoPart, opSl, opSlO, opRev, opCallK, ownD, ownO, objs, renum, uniq, getS, putS, vCall0, vFor, vForW, En.wk, vSeqI, vTupI, vRng1, vRng2, vEnum, vZip, chkOf, vLcK, vYes, finD, finO, En.wipe, wipeE, En.trim, trimS, dropNone, clr_n, clr_v, clr_k, clr_o, wth, Vl.ret, takeS, startV, List.map_cons, List.map_nil, List.length_cons, List.length_nil, List.cons_append, List.nil_append, List.replicate, List.getElem?_cons_succ, List.getElem?_cons_zero, List.getElem?_nil, List.set_cons_succ, List.set_cons_zero, List.set_nil, List.all_nil, List.all_cons, Bool.true_and, Option.map_some, Option.map_none, if_true, if_false, decide_eq_true_eq, Bool.false_eq_true, List.take_succ_cons, List.take_zero, List.take_nil, List.drop_succ_cons, List.drop_zero, List.drop_nil, reduceIte, reduceCtorEq])
  | `(tactic| ktr_call "q1" "0") => `(tactic| simp only [flatD, List.any_cons, List.any_nil, eqv_str, eqv_int, eqv_ti, eqv_it, eqv_st, eqv_ts, cut1, Bool.or_false, Bool.or_true, Bool.and_self, Bool.and_true, Bool.and_false, Bool.false_or, Bool.true_or, and_self, ofs_inj, ofs_app, ofs_len, String.reduceEq, String.reduceNe, String.reduceAppend, decide_true, decide_false, Bool.not_true, Bool.not_false, sz0, sz1, sz2, sz3, sz4, sz5, sz6, sz7, sz8, sz9, sz10, sz11, sz12, sz13, sz14, sz15, sz16, sz17, sz18, sz19, sz20, sz21, sz22, sz23, sz24, sz25, cpow1018, true_and, and_true, Nat.reduceAdd, Nat.reduceLT, Nat.reduceSub, Int.reduceNe, Int.reduceEq, Int.reduceLT, Int.reduceLE, Int.reduceToNat, ne_eq, not_false_eq_true, List.length_map, Nat.lt_irrefl, dV_nx, dV_rt, at0, at1, at2, at3, ix20, ix21, vSeq, vIfS, vTest, vTruth, truth, v2, v1, vN, vCons, vNil, vStar, vVar, vC, xIx, Vl.opI0, Vl.opI, pk, vSet, vAug, vAsg, xgSub, vRet, vRetN, vNext_mk, vDrop, vBreak, vCont, asD, asDs, opMod, opDiv, opMul2, Vl.opAdd, Vl.opAddO, opSub, opPow, opLt, Vl.opLe, opGt, Vl.opGe, xEq, okEq_str, okEq_int, xIn, okIn, inD, xIsN, isNone_n, isNone_t, isNone_l, isNone_i, isNone_s, isMo, mob, pkm, gModI, gDivI, gSubI, gMulI, gPowI, gGt, gLt, gLe, gGe, vNotT, vAndT, vOrT, vAndV, vOrV, opNot, opNotG, vIfE, opTup, opLst, opLstO, Vl.opLen, Vl.opInt, opList, opListO, opTuple, opII, gMax, gMin, vM, vM0, isT, xPop, Vl.opAppend, opExtend, opJoin, vgName, vgTup, vgCons, vgNil, kOpt_some, kOpn_some, kOps_some, Vl.opSum, Vl.opInsert, Vl.opIndex, opDivmod, vSl, vPart, vNoPart, opSl, opSlO, opRev, opCallK, ownD, ownO, objs, renum, uniq, getS, putS, vCall0, vFor, vForW, En.wk, vSeqI, vTupI, vRng1, vRng2, vEnum, vZip, chkOf, vLcK, vYes, finD, finO, En.wipe, wipeE, En.trim, trimS, dropNone, clr_n, clr_v, clr_k, clr_o, wth, Vl.ret, takeS, startV, List.map_cons, List.map_nil, List.length_cons, List.length_nil, List.cons_append, List.nil_append, List.replicate, List.getElem?_cons_succ, List.getElem?_cons_zero, List.getElem?_nil, List.set_cons_succ, List.set_cons_zero, List.set_nil, List.all_nil, List.all_cons, Bool.true_and, Option.map_some, Option.map_none, if_true, if_false, decide_eq_true_eq, Bool.false_eq_true, List.take_succ_cons, List.take_zero, List.take_nil, List.drop_succ_cons, List.drop_zero, List.drop_nil, reduceIte, reduceCtorEq])
local macro_rules
  | `(tactic| ktr_call "q2" ⟨$xs,*⟩) => `(tactic| simp only [$[$xs:term],*, flatD, List.any_cons, List.any_nil, eqv_str, eqv_int, eqv_ti, eqv_it, eqv_st, eqv_ts, cut1, Bool.or_false, Bool.or_true, Bool.and_self, Bool.and_true, Bool.and_false, Bool.false_or, Bool.true_or, and_self, ofs_inj, ofs_app, ofs_len, String.reduceEq, String.reduceNe, String.reduceAppend, decide_true, decide_false, Bool.not_true, Bool.not_false, sz0, sz1, sz2, sz3, sz4, sz5, sz6, sz7, sz8, sz9, sz10, sz11, sz12, sz13, sz14, sz15, sz16, sz17, sz18, sz19, sz20, sz21, sz22, sz23, sz24, sz25, cpow1018, true_and, and_true, Nat.reduceAdd, Nat.reduceLT, Nat.reduceSub, Int.reduceNe, Int.reduceEq, Int.reduceLT, Int.reduceLE, Int.reduceToNat, ne_eq, not_false_eq_true, List.length_map, Nat.lt_irrefl, dV_nx, dV_rt, at0, at1, at2, at3, ix20, ix21, vSeq, vIfS, vTest, vTruth, truth, v2, v1, vN, vCons, vNil, vStar, vVar, vC, xIx, Vl.opI0, Vl.opI, pk, vSet, vAug, vAsg, xgSub, vRet, vRetN, vNext_mk, vDrop, vBreak, vCont, asD, asDs, opMod, opDiv, opMul2, Vl.opAdd, Vl.opAddO, opSub, opPow, opLt, Vl.opLe, opGt, Vl.opGe, xEq, okEq_str, okEq_int, xIn, okIn, inD, xIsN, isNone_n, isNone_t, isNone_l, isNone_i, isNone_s, isMo, mob, pkm, gModI, gDivI, gSubI, gMulI, gPowI, gGt, gLt, gLe, gGe, vNotT, vAndT, vOrT, vAndV, vOrV, opNot, opNotG, vIfE, opTup, opLst, opLstO, Vl.opLen, Vl.opInt, opList, opListO, opTuple, opII, gMax, gMin, vM, vM0, isT, xPop, Vl.opAppend, opExtend, opJoin, vgName, vgTup, vgCons, vgNil, kOpt_some, kOpn_some, kOps_some, Vl.opSum, Vl.opInsert, Vl.opIndex, opDivmod, vSl, vPart, vNoPart, opSl, opSlO, opRev, opCallK, ownD, ownO, objs, renum, uniq, getS, putS, vCall0, vFor, vForW, En.wk, vSeqI, vTupI, vRng1, vRng2, vRngD, vFn, vCallL, vOdd, vWays, vEnum, vZip, chkOf, vLcK, vYes, finD, finO, En.wipe, wipeE, En.trim, trimS, dropNone, clr_n, clr_v, clr_k, clr_o, wth, Vl.ret, takeS, startV, List.map_cons, List.map_nil, List.length_cons, List.length_nil, List.cons_append, List.nil_append, List.replicate, List.getElem?_cons_succ, List.getElem?_cons_zero, List.getElem?_nil, List.set_cons_succ, List.set_cons_zero, List.set_nil, List.all_nil, List.all_cons, Bool.true_and, Option.map_some, Option.map_none, if_true, if_false, decide_eq_true_eq, Bool.false_eq_true, List.take_succ_cons, List.take_zero, List.take_nil, List.drop_succ_cons, List.drop_zero, List.drop_nil, reduceIte, reduceCtorEq])
  | `(tactic| ktr_call "q2" "0") => `(tactic| simp only [flatD, List.any_cons, List.any_nil, eqv_str, eqv_int, eqv_ti, eqv_it, eqv_st, eqv_ts, cut1, Bool.or_false, Bool.or_true, Bool.and_self, Bool.and_true, Bool.and_false, Bool.false_or, Bool.true_or, and_self, ofs_inj, ofs_app, ofs_len, String.reduceEq, String.reduceNe, String.reduceAppend, decide_true, decide_false, Bool.not_true, Bool.not_false, sz0, sz1, sz2, sz3, sz4, sz5, sz6, sz7, sz8, sz9, sz10, sz11, sz12, sz13, sz14, sz15, sz16, sz17, sz18, sz19, sz20, sz21, sz22, sz23, sz24, sz25, cpow1018, true_and, and_true, Nat.reduceAdd, Nat.reduceLT, Nat.reduceSub, Int.reduceNe, Int.reduceEq, Int.reduceLT, Int.reduceLE, Int.reduceToNat, ne_eq, not_false_eq_true, List.length_map, Nat.lt_irrefl, dV_nx, dV_rt, at0, at1, at2, at3, ix20, ix21, vSeq, vIfS, vTest, vTruth, truth, v2, v1, vN, vCons, vNil, vStar, vVar, vC, xIx, Vl.opI0, Vl.opI, pk, vSet, vAug, vAsg, xgSub, vRet, vRetN, vNext_mk, vDrop, vBreak, vCont, asD, asDs, opMod, opDiv, opMul2, Vl.opAdd, Vl.opAddO, opSub, opPow, opLt, Vl.opLe, opGt, Vl.opGe, xEq, okEq_str, okEq_int, xIn, okIn, inD, xIsN, isNone_n, isNone_t, isNone_l, isNone_i, isNone_s, isMo, mob, pkm, gModI, gDivI, gSubI, gMulI, gPowI, gGt, gLt, gLe, gGe, vNotT, vAndT, vOrT, vAndV, vOrV, opNot, opNotG, vIfE, opTup, opLst, opLstO, Vl.opLen, Vl.opInt, opList, opListO, opTuple, opII, gMax, gMin, vM, vM0, isT, xPop, Vl.opAppend, opExtend, opJoin, vgName, vgTup, vgCons, vgNil, kOpt_some, kOpn_some, kOps_some, Vl.opSum, Vl.opInsert, Vl.opIndex, opDivmod, vSl, vPart, vNoPart, opSl, opSlO, opRev, opCallK, ownD, ownO, objs, renum, uniq, getS, putS, vCall0, vFor, vForW, En.wk, vSeqI, vTupI, vRng1, vRng2, vRngD, vFn, vCallL, vOdd, vWays, vEnum, vZip, chkOf, vLcK, vYes, finD, finO, En.wipe, wipeE, En.trim, trimS, dropNone, clr_n, clr_v, clr_k, clr_o, wth, Vl.ret, takeS, startV, List.map_cons, List.map_nil, List.length_cons, List.length_nil, List.cons_append, List.nil_append, List.replicate, List.getElem?_cons_succ, List.getElem?_cons_zero, List.getElem?_nil, List.set_cons_succ, List.set_cons_zero, List.set_nil, List.all_nil, List.all_cons, Bool.true_and, Option.map_some, Option.map_none, if_true, if_false, decide_eq_true_eq, Bool.false_eq_true, List.take_succ_cons, List.take_zero, List.take_nil, List.drop_succ_cons, List.drop_zero, List.drop_nil, reduceIte, reduceCtorEq])
local macro_rules
  | `(tactic| ktr_call "q3" ⟨$xs,*⟩) => `(tactic| simp only [$[$xs:term],*, flatD, List.any_cons, List.any_nil, eqv_str, eqv_int, eqv_ti, eqv_it, eqv_st, eqv_ts, cut1, Bool.or_false, Bool.or_true, Bool.and_self, Bool.and_true, Bool.and_false, Bool.false_or, Bool.true_or, and_self, ofs_inj, ofs_app, ofs_len, String.reduceEq, String.reduceNe, String.reduceAppend, decide_true, decide_false, Bool.not_true, Bool.not_false, sz0, sz1, sz2, sz3, sz4, sz5, sz6, sz7, sz8, sz9, sz10, sz11, sz12, sz13, sz14, sz15, sz16, sz17, sz18, sz19, sz20, sz21, sz22, sz23, sz24, sz25, cpow1018, true_and, and_true, Nat.reduceAdd, Nat.reduceLT, Nat.reduceSub, Int.reduceNe, Int.reduceEq, Int.reduceLT, Int.reduceLE, Int.reduceToNat, ne_eq, not_false_eq_true, List.length_map, Nat.lt_irrefl, dV_nx, dV_rt, at0, at1, at2, at3, ix20, ix21, vSeq, vIfS, vTest, vTruth, truth, v2, v1, vN, vCons, vNil, vStar, vVar, vC, xIx, Vl.opI0, Vl.opI, pk, vSet, vAug, vAsg, xgSub, vRet, vRetN, vNext, vDrop, vBreak, vCont, asD, asDs, opMod, opDiv, opMul2, Vl.opAdd, Vl.opAddO, opSub, opPow, opLt, Vl.opLe, opGt, Vl.opGe, xEq, okEq_str, okEq_int, xIn, okIn, inD, xIsN, isNone_n, isNone_t, isNone_l, isNone_i, isNone_s, isMo, mob, pkm, gModI, gDivI, gSubI, gMulI, gPowI, gGt, gLt, gLe, gGe, vNotT, vAndT, vOrT, vAndV, vOrV, opNot, opNotG, vIfE, opTup, opLst, opLstO, Vl.opLen, Vl.opInt, opList, opListO, opTuple, opII, gMax, gMin, vM, vM0, isT, xPop, Vl.opAppend, opExtend, opJoin, vgName, vgTup, vgCons, vgNil, kOpt_some, kOpn_some, kOps_some, Vl.opSum, Vl.opInsert, Vl.opIndex, opDivmod, vSl, vPart, vNoPart, opSl, opSlO, opRev, opCallK, ownD, ownO, objs, renum, uniq, getS, putS, vCall0, vFor, vForW, En.wk, vSeqI, vTupI, vRng1, vRng2, vRngD, vFn, vCallL, vOdd, vWays, vEnum, vZip, chkOf, vLcK, vYes, finD, finO, En.wipe, wipeE, En.trim, trimS, dropNone, clr_n, clr_v, clr_k, clr_o, wth, Vl.ret, takeS, startV, List.map_cons, List.map_nil, List.length_cons, List.length_nil, List.cons_append, List.nil_append, List.replicate, List.getElem?_cons_succ, List.getElem?_cons_zero, List.getElem?_nil, List.set_cons_succ, List.set_cons_zero, List.set_nil, List.all_nil, List.all_cons, Bool.true_and, Option.map_some, Option.map_none, if_true, if_false, decide_eq_true_eq, Bool.false_eq_true, List.take_succ_cons, List.take_zero, List.take_nil, List.drop_succ_cons, List.drop_zero, List.drop_nil, reduceIte, reduceCtorEq])
  | `(tactic| ktr_call "q3" "0") => `(tactic| simp only [flatD, List.any_cons, List.any_nil, eqv_str, eqv_int, eqv_ti, eqv_it, eqv_st, eqv_ts, cut1, Bool.or_false, Bool.or_true, Bool.and_self, Bool.and_true, Bool.and_false, Bool.false_or, Bool.true_or, and_self, ofs_inj, ofs_app, ofs_len, String.reduceEq, String.reduceNe, String.reduceAppend, decide_true, decide_false, Bool.not_true, Bool.not_false, sz0, sz1, sz2, sz3, sz4, sz5, sz6, sz7, sz8, sz9, sz10, sz11, sz12, sz13, sz14, sz15, sz16, sz17, sz18, sz19, sz20, sz21, sz22, sz23, sz24, sz25, cpow1018, true_and, and_true, Nat.reduceAdd, Nat.reduceLT, Nat.reduceSub, Int.reduceNe, Int.reduceEq, Int.reduceLT, Int.reduceLE, Int.reduceToNat, ne_eq, not_false_eq_true, List.length_map, Nat.lt_irrefl, dV_nx, dV_rt, at0, at1, at2, at3, ix20, ix21, vSeq, vIfS, vTest, vTruth, truth, v2, v1, vN, vCons, vNil, vStar, vVar, vC, xIx, Vl.opI0, Vl.opI, pk, vSet, vAug, vAsg, xgSub, vRet, vRetN, vNext, vDrop, vBreak, vCont, asD, asDs, opMod, opDiv, opMul2, Vl.opAdd, Vl.opAddO, opSub, opPow, opLt, Vl.opLe, opGt, Vl.opGe, xEq, okEq_str, okEq_int, xIn, okIn, inD, xIsN, isNone_n, isNone_t, isNone_l, isNone_i, isNone_s, isMo, mob, pkm, gModI, gDivI, gSubI, gMulI, gPowI, gGt, gLt, gLe, gGe, vNotT, vAndT, vOrT, vAndV, vOrV, opNot, opNotG, vIfE, opTup, opLst, opLstO, Vl.opLen, Vl.opInt, opList, opListO, opTuple, opII, gMax, gMin, vM, vM0, isT, xPop, Vl.opAppend, opExtend, opJoin, vgName, vgTup, vgCons, vgNil, kOpt_some, kOpn_some, kOps_some, Vl.opSum, Vl.opInsert, Vl.opIndex, opDivmod, vSl, vPart, vNoPart, opSl, opSlO, opRev, opCallK, ownD, ownO, objs, renum, uniq, getS, putS, vCall0, vFor, vForW, En.wk, vSeqI, vTupI, vRng1, vRng2, vRngD, vFn, vCallL, vOdd, vWays, vEnum, vZip, chkOf, vLcK, vYes, finD, finO, En.wipe, wipeE, En.trim, trimS, dropNone, clr_n, clr_v, clr_k, clr_o, wth, Vl.ret, takeS, startV, List.map_cons, List.map_nil, List.length_cons, List.length_nil, List.cons_append, List.nil_append, List.replicate, List.getElem?_cons_succ, List.getElem?_cons_zero, List.getElem?_nil, List.set_cons_succ, List.set_cons_zero, List.set_nil, List.all_nil, List.all_cons, Bool.true_and, Option.map_some, Option.map_none, if_true, if_false, decide_eq_true_eq, Bool.false_eq_true, List.take_succ_cons, List.take_zero, List.take_nil, List.drop_succ_cons, List.drop_zero, List.drop_nil, reduceIte, reduceCtorEq])
local macro_rules
  | `(tactic| ktr_call "q4" ⟨$xs,*⟩) => `(tactic| simp only [$[$xs:term],*, flatD, List.any_cons, List.any_nil, eqv_str, eqv_int, eqv_ti, eqv_it, eqv_st, eqv_ts, cut1, Bool.or_false, Bool.or_true, Bool.and_self, Bool.and_true, Bool.and_false, Bool.false_or, Bool.true_or, and_self, ofs_inj, ofs_app, ofs_len, String.reduceEq, String.reduceNe, String.reduceAppend, decide_true, decide_false, Bool.not_true, Bool.not_false, sz0, sz1, sz2, sz3, sz4, sz5, sz6, sz7, sz8, sz9, sz10, sz11, sz12, sz13, sz14, sz15, sz16, sz17, sz18, sz19, sz20, sz21, sz22, sz23, sz24, sz25, cpow1018, true_and, and_true, Nat.reduceAdd, Nat.reduceLT, Nat.reduceSub, Int.reduceNe, Int.reduceEq, Int.reduceLT, Int.reduceLE, Int.reduceToNat, ne_eq, not_false_eq_true, List.length_map, Nat.lt_irrefl, dV_nx, dV_rt, at0, at1, at2, at3, ix20, ix21, vSeq, vIfS, vTest, vTruth, truth, v2, v1, vN, vCons, vNil, vStar, vVar, vC, xIx, Vl.opI0, Vl.opI, pk, vSet, vAug, vAsg, xgSub, vRet, vRetN, vDrop, vBreak, vCont, asD, asDs, opMod, opDiv, opMul2, Vl.opAdd, Vl.opAddO, opSub, opPow, opLt, Vl.opLe, opGt, Vl.opGe, xEq, okEq_str, okEq_int, xIn, okIn, inD, xIsN, isNone_n, isNone_t, isNone_l, isNone_i, isNone_s, isMo, mob, pkm, gModI, gDivI, gSubI, gMulI, gPowI, gGt, gLt, gLe, gGe, vNotT, vAndT, vOrT, vAndV, vOrV, opNot, opNotG, vIfE, opTup, opLst, opLstO, Vl.opLen, Vl.opInt, opList, opListO, opTuple, opII, gMax, gMin, vM, vM0, isT, xPop, Vl.opAppend, opExtend, opJoin, vgName, vgTup, vgCons, vgNil, kOpt_some, kOpn_some, kOps_some, Vl.opSum, Vl.opInsert, Vl.opIndex, opDivmod, vSl, vPart, vNoPart, opSl, opSlO, opRev, opCallK, ownD, ownO, objs, renum, uniq, getS, putS, vCall0, vFor, vForW, En.wk, vSeqI, vTupI, vRng1, vRng2, vRngD, vFn, vCallL, vOdd, vWays, vEnum, vZip, chkOf, vLcK, vYes, finD, finO, En.wipe, wipeE, En.trim, trimS, dropNone, clr_n, clr_v, clr_k, clr_o, wth, Vl.ret, takeS, startV, List.map_cons, List.map_nil, List.length_cons, List.length_nil, List.cons_append, List.nil_append, List.replicate, List.getElem?_cons_succ, List.getElem?_cons_zero, List.getElem?_nil, List.set_cons_succ, List.set_cons_zero, List.set_nil, List.all_nil, List.all_cons, Bool.true_and, Option.map_some, Option.map_none, if_true, if_false, decide_eq_true_eq, Bool.false_eq_true, List.take_succ_cons, List.take_zero, List.take_nil, List.drop_succ_cons, List.drop_zero, List.drop_nil, reduceIte, reduceCtorEq])
  | `(tactic| ktr_call "q4" "0") => `(tactic| simp only [flatD, List.any_cons, List.any_nil, eqv_str, eqv_int, eqv_ti, eqv_it, eqv_st, eqv_ts, cut1, Bool.or_false, Bool.or_true, Bool.and_self, Bool.and_true, Bool.and_false, Bool.false_or, Bool.true_or, and_self, ofs_inj, ofs_app, ofs_len, String.reduceEq, String.reduceNe, String.reduceAppend, decide_true, decide_false, Bool.not_true, Bool.not_false, sz0, sz1, sz2, sz3, sz4, sz5, sz6, sz7, sz8, sz9, sz10, sz11, sz12, sz13, sz14, sz15, sz16, sz17, sz18, sz19, sz20, sz21, sz22, sz23, sz24, sz25, cpow1018, true_and, and_true, Nat.reduceAdd, Nat.reduceLT, Nat.reduceSub, Int.reduceNe, Int.reduceEq, Int.reduceLT, Int.reduceLE, Int.reduceToNat, ne_eq, not_false_eq_true, List.length_map, Nat.lt_irrefl, dV_nx, dV_rt, at0, at1, at2, at3, ix20, ix21, vSeq, vIfS, vTest, vTruth, truth, v2, v1, vN, vCons, vNil, vStar, vVar, vC, xIx, Vl.opI0, Vl.opI, pk, vSet, vAug, vAsg, xgSub, vRet, vRetN, vDrop, vBreak, vCont, asD, asDs, opMod, opDiv, opMul2, Vl.opAdd, Vl.opAddO, opSub, opPow, opLt, Vl.opLe, opGt, Vl.opGe, xEq, okEq_str, okEq_int, xIn, okIn, inD, xIsN, isNone_n, isNone_t, isNone_l, isNone_i, isNone_s, isMo, mob, pkm, gModI, gDivI, gSubI, gMulI, gPowI, gGt, gLt, gLe, gGe, vNotT, vAndT, vOrT, vAndV, vOrV, opNot, opNotG, vIfE, opTup, opLst, opLstO, Vl.opLen, Vl.opInt, opList, opListO, opTuple, opII, gMax, gMin, vM, vM0, isT, xPop, Vl.opAppend, opExtend, opJoin, vgName, vgTup, vgCons, vgNil, kOpt_some, kOpn_some, kOps_some, Vl.opSum, Vl.opInsert, Vl.opIndex, opDivmod, vSl, vPart, vNoPart, opSl, opSlO, opRev, opCallK, ownD, ownO, objs, renum, uniq, getS, putS, vCall0, vFor, vForW, En.wk, vSeqI, vTupI, vRng1, vRng2, vRngD, vFn, vCallL, vOdd, vWays, vEnum, vZip, chkOf, vLcK, vYes, finD, finO, En.wipe, wipeE, En.trim, trimS, dropNone, clr_n, clr_v, clr_k, clr_o, wth, Vl.ret, takeS, startV, List.map_cons, List.map_nil, List.length_cons, List.length_nil, List.cons_append, List.nil_append, List.replicate, List.getElem?_cons_succ, List.getElem?_cons_zero, List.getElem?_nil, List.set_cons_succ, List.set_cons_zero, List.set_nil, List.all_nil, List.all_cons, Bool.true_and, Option.map_some, Option.map_none, if_true, if_false, decide_eq_true_eq, Bool.false_eq_true, List.take_succ_cons, List.take_zero, List.take_nil, List.drop_succ_cons, List.drop_zero, List.drop_nil, reduceIte, reduceCtorEq])
/-- a row of numbers that is drawn from: what is left of the cell, and a number -/
def PoolK (n : Int) : Prop := 0 ≤ n ∧ n < 2147483647
def pTake : VSp := fun ss st Kp => match ss, st with
  | [.obj 0, .val (.int m)], [.l [.int c, .int n]] => PoolK n ∧ 0 < m ∧ m < 1329227995784915872903807060280344576 ∧ ∀ r c' n' : Int, 0 ≤ r → r < m → PoolK n' → Kp (.val (.int r)) [.l [.int c', .int n']]
  | _, _ => False
def pPool : VSp := fun ss st Kp => ∃ (ns : List Int) (k : Nat), ss = [.kn (ns.map .int), .val (.int (k : Int))] ∧ st = [] ∧ ns.length ≤ 63 ∧ k ≤ 63 ∧
  ∀ c n : Int, PoolK n → Kp (.obj 0) [.l [.int c, .int n]]
theorem nm_nat {x m : Int} (hm : 0 < m) : 0 ≤ x.fmod m ∧ x.fmod m < m := ⟨Int.fmod_nonneg_of_pos x hm, Int.fmod_lt_of_pos x hm⟩
theorem at_any {α : Type} {xs : List α} {r : Int} (h0 : 0 ≤ r) (h1 : r < xs.length) : ∃ x, atI xs r = some x ∧ x ∈ xs := by
  obtain ⟨j, rfl⟩ : ∃ j : Nat, r = j := ⟨r.toNat, by omega⟩
  have hj : j < xs.length := by omega
  exact ⟨xs[j], atI_nat (by simp [hj]), List.getElem_mem hj⟩
inductive Kd where
  | mark (m : Str)
  | one
  | to (a b : Kd)
  | both (a b : Kd)
deriving DecidableEq
def Kd.enc : Kd → D
  | .mark m => .tuple [.str "mark", .str m]
  | .one => .tuple [.str "one"]
  | .to a b => .tuple [.str "to", a.enc, b.enc]
  | .both a b => .tuple [.str "both", a.enc, b.enc]
def Kd.leaves : Kd → Nat
  | .mark _ => 1
  | .one => 1
  | .to a b => a.leaves + b.leaves
  | .both a b => a.leaves + b.leaves
def Kd.over (ms : List Str) : Kd → Prop
  | .mark m => m ∈ ms
  | .one => True
  | .to a b => a.over ms ∧ b.over ms
  | .both a b => a.over ms ∧ b.over ms
theorem Kd.leaves_pos : ∀ k : Kd, 1 ≤ k.leaves
  | .mark _ => Nat.le_refl _
  | .one => Nat.le_refl _
  | .to a b => by
    have := a.leaves_pos
    simp only [Kd.leaves]
    omega
  | .both a b => by
    have := a.leaves_pos
    simp only [Kd.leaves]
    omega
def pKind (N : Nat) : VSp := fun ss st Kp => match ss, st with
  | [.obj 0, .val (.int l), .val (.list ds)], [.l [.int c, .int n]] => PoolK n ∧ 1 ≤ l ∧ l ≤ N ∧ l < 1000 ∧ ∃ ms : List Str, ds = ms.map .str ∧ 0 < ms.length ∧ ms.length < 1000 ∧
    ∀ (k : Kd) (c' n' : Int), (k.leaves : Int) = l → k.over ms → PoolK n' → Kp (.val k.enc) [.l [.int c', .int n']]
  | _, _ => False
theorem Kd.eqv_iff (a b : Kd) : PyData.eqv a.enc b.enc = true ↔ a = b := by
  induction a generalizing b with
  | mark m =>
    cases b <;> simp only [Kd.enc, eqv_tup, eqvAll_cons, eqvAll_nil, eqvAll_nc, eqvAll_cn, eqv_str, Bool.and_eq_true, decide_eq_true_eq, reduceCtorEq, Kd.mark.injEq, Bool.false_eq_true, and_false, and_true, iff_false, false_and]
    · exact ⟨fun h => h.2, fun h => ⟨by decide, h⟩⟩
  | one =>
    cases b <;> simp only [Kd.enc, eqv_tup, eqvAll_cons, eqvAll_nil, eqvAll_nc, eqvAll_cn, eqv_str, Bool.and_eq_true, decide_eq_true_eq, reduceCtorEq, Bool.false_eq_true, and_false, and_true]
  | to x y ihx ihy =>
    cases b <;> simp only [Kd.enc, eqv_tup, eqvAll_cons, eqvAll_nil, eqvAll_nc, eqvAll_cn, eqv_str, Bool.and_eq_true, decide_eq_true_eq, reduceCtorEq, Kd.to.injEq, Bool.false_eq_true, and_false, and_true, ihx, ihy, iff_false, false_and]
    · exact ⟨fun h => h.2, fun h => ⟨by decide, h⟩⟩
    · exact fun h => absurd h.1 (by decide)
  | both x y ihx ihy =>
    cases b <;> simp only [Kd.enc, eqv_tup, eqvAll_cons, eqvAll_nil, eqvAll_nc, eqvAll_cn, eqv_str, Bool.and_eq_true, decide_eq_true_eq, reduceCtorEq, Kd.both.injEq, Bool.false_eq_true, and_false, and_true, ihx, ihy, iff_false, false_and]
    · exact fun h => absurd h.1 (by decide)
    · exact ⟨fun h => h.2, fun h => ⟨by decide, h⟩⟩
theorem Kd.eqv [DecidableEq Kd] (a b : Kd) : PyData.eqv a.enc b.enc = decide (a = b) := Bool.eq_iff_iff.mpr (by rw [Kd.eqv_iff]; simp)
def Kd.deep : Kd → Nat
  | .mark _ => 0
  | .one => 0
  | .to a b => max a.deep b.deep + 1
  | .both a b => max a.deep b.deep + 1
theorem Kd.deep_lt : ∀ k : Kd, k.deep < k.leaves
  | .mark _ => Nat.lt_succ_self _
  | .one => Nat.lt_succ_self _
  | .to a b => by
    have h1 := a.deep_lt
    have h2 := b.deep_lt
    simp only [Kd.deep, Kd.leaves]
    omega
  | .both a b => by
    have h1 := a.deep_lt
    have h2 := b.deep_lt
    simp only [Kd.deep, Kd.leaves]
    omega
theorem Kd.depth_enc : ∀ k : Kd, k.enc.depth = k.deep + 1
  | .mark m => by simp only [Kd.enc, depth_tup, depthAll_cons, depthAll_nil, depth_str, Kd.deep]; rfl
  | .one => by simp only [Kd.enc, depth_tup, depthAll_cons, depthAll_nil, depth_str, Kd.deep]; rfl
  | .to a b => by
    simp only [Kd.enc, depth_tup, depthAll_cons, depthAll_nil, depth_str, Kd.deep, a.depth_enc, b.depth_enc]
    omega
  | .both a b => by
    simp only [Kd.enc, depth_tup, depthAll_cons, depthAll_nil, depth_str, Kd.deep, a.depth_enc, b.depth_enc]
    omega
theorem Kd.can_enc {ms : List Str} (hm : ∀ m ∈ ms, PyData.strOk m = true) : ∀ k : Kd, k.over ms → k.enc.canLay0 = true
  | .mark m, h => by
    simp only [Kd.enc, can_tup, canAll_cons, canAll_nil, can_str, Bool.and_eq_true]
    exact ⟨by decide +kernel, hm m h, trivial⟩
  | .one, h => by
    simp only [Kd.enc, can_tup, canAll_cons, canAll_nil, can_str, Bool.and_eq_true]
    exact ⟨by decide +kernel, trivial⟩
  | .to a b, h => by
    simp only [Kd.enc, can_tup, canAll_cons, canAll_nil, can_str, Bool.and_eq_true]
    exact ⟨by decide +kernel, a.can_enc hm h.1, b.can_enc hm h.2, trivial⟩
  | .both a b, h => by
    simp only [Kd.enc, can_tup, canAll_cons, canAll_nil, can_str, Bool.and_eq_true]
    exact ⟨by decide +kernel, a.can_enc hm h.1, b.can_enc hm h.2, trivial⟩
theorem Kd.shp {ms : List Str} (hm : ∀ m ∈ ms, PyData.strOk m = true) {k : Kd} (h : k.over ms) (hl : k.leaves ≤ 180) : Vl.shp k.enc = true := by
  unfold Vl.shp
  have := k.deep_lt
  rw [k.can_enc hm h, k.depth_enc, decide_eq_true (by omega)]
  rfl
inductive Pg where
  | name (x : Str)
  | take (x : Str) (k : Kd) (p : Pg)
  | give (p q : Pg)
  | pair (p q : Pg)
  | first (p : Pg)
  | second (p : Pg)
  | thing
def Pg.enc : Pg → D
  | .name x => .tuple [.str "name", .str x]
  | .take x k p => .tuple [.str "take", .str x, k.enc, p.enc]
  | .give p q => .tuple [.str "give", p.enc, q.enc]
  | .pair p q => .tuple [.str "pair", p.enc, q.enc]
  | .first p => .tuple [.str "first", p.enc]
  | .second p => .tuple [.str "second", p.enc]
  | .thing => .tuple [.str "thing"]
def Pg.size : Pg → Nat
  | .name _ => 1
  | .take _ _ p => p.size + 1
  | .give p q => p.size + q.size + 1
  | .pair p q => p.size + q.size + 1
  | .first p => p.size + 1
  | .second p => p.size + 1
  | .thing => 1
def Pg.deep : Pg → Nat
  | .name _ => 0
  | .take _ _ p => p.deep + 1
  | .give p q => max p.deep q.deep + 1
  | .pair p q => max p.deep q.deep + 1
  | .first p => p.deep + 1
  | .second p => p.deep + 1
  | .thing => 0
/-- a row of names with their kinds, the innermost last -/
def encB (r : Str × Kd) : D := .tuple [.str r.1, r.2.enc]
def look : List (Str × Kd) → Str → Option Kd
  | [], _ => none
  | (y, k) :: r, x => match look r x with
    | some l => some l
    | none => if y = x then some k else none
inductive HasK : List (Str × Kd) → Pg → Kd → Prop
  | name {r : List (Str × Kd)} {x : Str} {k : Kd} : look r x = some k → HasK r (.name x) k
  | take {r : List (Str × Kd)} {x : Str} {k l : Kd} {p : Pg} : HasK (r ++ [(x, k)]) p l → HasK r (.take x k p) (.to k l)
  | give {r : List (Str × Kd)} {k l : Kd} {p q : Pg} : HasK r p (.to k l) → HasK r q k → HasK r (.give p q) l
  | pair {r : List (Str × Kd)} {k l : Kd} {p q : Pg} : HasK r p k → HasK r q l → HasK r (.pair p q) (.both k l)
  | first {r : List (Str × Kd)} {k l : Kd} {p : Pg} : HasK r p (.both k l) → HasK r (.first p) k
  | second {r : List (Str × Kd)} {k l : Kd} {p : Pg} : HasK r p (.both k l) → HasK r (.second p) l
  | thing {r : List (Str × Kd)} : HasK r .thing .one
theorem look_app {r : List (Str × Kd)} {x y : Str} {k : Kd} : look (r ++ [(y, k)]) x = if y = x then some k else look r x := by
  induction r with
  | nil =>
    simp only [List.nil_append, look]
  | cons p r ih =>
    obtain ⟨z, l⟩ := p
    simp only [List.cons_append, look, ih]
    by_cases h : y = x <;> simp [h]
theorem look_mem {r : List (Str × Kd)} {x : Str} {k : Kd} (h : look r x = some k) : (x, k) ∈ r := by
  induction r with
  | nil => cases h
  | cons p r ih =>
    obtain ⟨z, l⟩ := p
    simp only [look] at h
    split at h
    · rename_i m hm
      cases h
      exact List.mem_cons_of_mem _ (ih hm)
    · split at h
      · rename_i hz
        cases h
        rw [hz]
        exact List.mem_cons_self
      · cases h
def t_Lpool_1 : VTS := (vSet 2 (v2 xIx (vVar 0) (vVar 1)))
def t_Lpool_2 : VTS := (vSet 2 (vC (.int 0)))
def t_Lpool_3 : VTS := (vRet (vN opLstO (vCons (vVar 2) (vCons (vVar 3) vNil))))
def t_Lpool_4 : VTS := vSeq (vIfS (vTest (v2 opLt (vVar 2) (v2 opPow (vC (.int 10)) (vC (.int 18))))) (t_Lpool_2) vNext) (t_Lpool_3)
def t_Lpool_5 : VTS := vSeq (vSet 3 (v2 opMod (v2 opPow (v2 opAdd (v2 opAdd (v2 opMod (vVar 2) (vC (.int 2147483629))) (v2 opMul2 (v2 opMul2 (vC (.int 104729)) (vVar 1)) (vVar 1))) (vC (.int 11))) (vC (.int 3))) (vC (.int 2147483647)))) (t_Lpool_4)
def t_Lpool_6 : VTS := vSeq (vIfS (vTest (v2 opLt (vVar 1) (vN opLen (vCons (vVar 0) vNil)))) (t_Lpool_1) vNext) (t_Lpool_5)
def t_Lpool_7 : VTS := vSeq (vSet 2 (vC (.int 0))) (t_Lpool_6)
def t_Lpool : VTS := (t_Lpool_7)
def t_Ltake_1 : VTS := (vRet (vVar 2))
def t_Ltake_2 : VTS := vSeq (vAsg (v2 opDiv (v2 xIx (vVar 0) (vC (.int 0))) (vVar 1)) (xgSub (vVar 0) (vC (.int 0)))) (t_Ltake_1)
def t_Ltake_3 : VTS := vSeq (vSet 2 (v2 opMod (v2 xIx (vVar 0) (vC (.int 0))) (vVar 1))) (t_Ltake_2)
def t_Ltake_4 : VTS := (vRet (v2 opMod (v2 opDiv (v2 opMod (v2 opMul2 (v2 xIx (vVar 0) (vC (.int 1))) (v2 xIx (vVar 0) (vC (.int 1)))) (vC (.int 2147483629))) (vC (.int 64))) (vVar 1)))
def t_Ltake_5 : VTS := vSeq (vAsg (v2 opMod (v2 opAdd (v2 opMul2 (v2 xIx (vVar 0) (vC (.int 1))) (vC (.int 48271))) (vC (.int 11))) (vC (.int 2147483647))) (xgSub (vVar 0) (vC (.int 1)))) (t_Ltake_4)
def t_Ltake_6 : VTS := vSeq (vIfS (vTest (v2 opGt (v2 xIx (vVar 0) (vC (.int 0))) (vC (.int 0)))) (t_Ltake_3) vNext) (t_Ltake_5)
def t_Ltake : VTS := (t_Ltake_6)
theorem big {n : Nat} (h : n ≤ 16000000) : n ≤ sizeLine := Nat.le_trans h (by decide)
theorem bigl {n : Nat} (h : n < 16000000) : n < sizeLine := Nat.lt_of_lt_of_le h (by decide)
theorem i_take {ss st Kp} (h : pTake ss st Kp) : ∃ c n m : Int, ss = [.obj 0, .val (.int m)] ∧ st = [.l [.int c, .int n]] ∧ PoolK n ∧ 0 < m ∧ m < 1329227995784915872903807060280344576 ∧ ∀ r c' n' : Int, 0 ≤ r → r < m → PoolK n' → Kp (.val (.int r)) [.l [.int c', .int n']] := by
  unfold pTake at h
  split at h
  · exact ⟨_, _, _, rfl, rfl, h⟩
  · exact h.elim
theorem r_take {ss cs Kp} (h : pTake ss cs Kp) : t_Ltake (dV cs.length Kp) ⟨startV 3 ss, cs.map some⟩ := by
  obtain ⟨c, n, m, rfl, rfl, ⟨n0, n1⟩, m0, m1, k⟩ := i_take h
  have q1 := nm_nat (x := n * 48271 + 11) (m := 2147483647) (by decide)
  ktr_call "q0" ⟨t_Ltake, t_Ltake_6⟩
  split
  · ktr_call "q0" ⟨t_Ltake_1, t_Ltake_2, t_Ltake_3, t_Ltake_4, t_Ltake_5, t_Ltake_6, t_Ltake⟩
    exact ⟨by omega, ⟨by omega, by omega⟩, k _ _ _ (nm_nat m0).1 (nm_nat m0).2 ⟨n0, n1⟩⟩
  · ktr_call "q0" ⟨t_Ltake_1, t_Ltake_2, t_Ltake_3, t_Ltake_4, t_Ltake_5, t_Ltake_6, t_Ltake⟩
    exact ⟨.inl ⟨by omega, by omega⟩, .inl ⟨by omega, by omega⟩, ⟨by decide, by decide⟩, by omega, k _ _ _ (nm_nat m0).1 (nm_nat m0).2 q1⟩
theorem r_pool {ss cs Kp} (h : pPool ss cs Kp) : t_Lpool (dV cs.length Kp) ⟨startV 4 ss, cs.map some⟩ := by
  obtain ⟨ns, n, rfl, rfl, n0, n1, k⟩ := h
  have fin : ∀ (x : Int) (i2 : Option Sl), t_Lpool_5 (dV 0 Kp) ⟨[some (.kn (ns.map .int)), some (.val (.int n)), some (.val (.int x)), i2], []⟩ := fun x i2 => by
    have q1 := nm_nat (x := x) (m := 2147483629) (by decide)
    have nn : (n : Int) * n ≤ 63 * 63 := by
      have : n * n ≤ 63 * 63 := Nat.mul_le_mul n1 n1
      exact_mod_cast this
    have n2 : 0 ≤ (n : Int) * n := Int.mul_nonneg (by omega) (by omega)
    ktr_call "q0" ⟨t_Lpool_5⟩
    have na : (x.fmod 2147483629 + 104729 * ↑n * ↑n + 11).natAbs < 2 ^ 64 := by
      have : (104729 : Int) * n * n = 104729 * (n * n) := by rw [Int.mul_assoc]
      omega
    refine ⟨.inl ⟨by decide, by decide⟩, .inl ⟨by omega, by omega⟩, ⟨by decide, by decide, na⟩, ?_⟩
    ktr_call "q0" ⟨t_Lpool_4⟩
    have q2 := nm_nat (x := (x.fmod 2147483629 + 104729 * ↑n * ↑n + 11) ^ (3 : Int).toNat) (m := 2147483647) (by decide)
    split
    · ktr_call "q0" ⟨t_Lpool_2, t_Lpool_3⟩
      exact k _ _ q2
    · ktr_call "q0" ⟨t_Lpool_3⟩
      exact k _ _ q2
  ktr_call "q0" ⟨t_Lpool, t_Lpool_7, t_Lpool_6, List.length_map⟩
  split
  · rename_i hk
    obtain ⟨d, hd, hm⟩ := at_any (xs := ns.map PyData.int) (r := (n : Int)) (by omega) (by rw [List.length_map]; exact hk)
    obtain ⟨x, _, rfl⟩ := List.mem_map.mp hm
    ktr_call "q0" ⟨t_Lpool_1, hd⟩
    exact fin _ _
  · exact fin _ _
def word (ds : List Int) : Str := ⟨(ds.map fun d => 97 + d.toNat).toArray⟩
structure IsMk (m : Str) : Prop where
  sg : ∀ c ∈ m.cps.toList, 97 ≤ c ∧ c ≤ 122
  lo : 1 ≤ m.length
  hi : m.length ≤ 6
theorem strOk_iff (x : Str) : PyData.strOk x = true ↔ ∀ c ∈ x.cps.toList, c < 0x110000 := by
  unfold PyData.strOk
  rw [← Array.all_toList, List.all_eq_true]
  simp
theorem IsMk.ok {m : Str} (h : IsMk m) : PyData.strOk m = true := (strOk_iff m).mpr fun c hc => by
  have := (h.sg c hc).2
  omega
def t_kindsin_1 : VTS := (vRet (vN opLst vNil))
def t_kindsin_2 : VTS := (vRet (vN opList (vCons (vSl opSl (vVar 0) (vPart (vC (.int 1))) vNoPart) vNil)))
def t_kindsin_3 : VTS := vSeq (vIfS (vTest (v2 (xEq false) (v2 xIx (vVar 0) (vC (.int 0))) (vC (.str "mark")))) (t_kindsin_1) vNext) (t_kindsin_2)
def t_kindsin : VTS := (t_kindsin_3)
theorem shaped_strs {ms : List Str} (h : ∀ m ∈ ms, PyData.strOk m = true) : SeqAt.shaped (.list (ms.map .str)) = true := by
  have hh : PyData.canLayAll0 (ms.map .str) = true ∧ PyData.depthAll (ms.map .str) = 0 := by
    induction ms with
    | nil => exact ⟨by rw [List.map_nil, canAll_nil], by rw [List.map_nil, depthAll_nil]⟩
    | cons m ms ih =>
      obtain ⟨h1, h2⟩ := ih fun x hx => h x (List.mem_cons_of_mem _ hx)
      rw [List.map_cons, canAll_cons, depthAll_cons, h1, h2, can_str, depth_str, h m List.mem_cons_self]
      exact ⟨rfl, rfl⟩
  show (PyData.canLay0 (.list (ms.map .str)) && decide (PyData.depth (.list (ms.map .str)) ≤ 64)) = true
  rw [can_lst, depth_lst, hh.1, hh.2] <;> rfl
theorem shaped_str {m : Str} (h : PyData.strOk m = true) : SeqAt.shaped (.str m) = true := by
  show (PyData.canLay0 (.str m) && decide (PyData.depth (.str m) ≤ 64)) = true
  rw [can_str, depth_str, h] <;> rfl
theorem ixD_strs (m : Str) : ∀ {ms : List Str}, m ∈ ms → ixD (.str m) (ms.map PyData.str) = some (ms.idxOf m)
  | [], h => by simp at h
  | x :: ms, h => by
    show (if PyData.eqv (.str x) (.str m) = true then some 0 else (ixD (.str m) (ms.map PyData.str)).map (· + 1)) = _
    rw [eqv_str, List.idxOf_cons]
    by_cases e : x = m
    · subst e
      simp
    · have hm : m ∈ ms := by
        rcases List.mem_cons.mp h with z | z
        · exact absurd z.symm e
        · exact z
      have e' : (x == m) = false := beq_eq_false_iff_ne.mpr e
      rw [ixD_strs m hm, e']
      simp [e]
/-- kinds -/
def Kd.inn : Kd → List Kd
  | .mark _ => []
  | .one => []
  | .to a b => [a, b]
  | .both a b => [a, b]
def Kd.nodes : Kd → Nat
  | .mark _ => 1
  | .one => 1
  | .to a b => a.nodes + b.nodes + 1
  | .both a b => a.nodes + b.nodes + 1
def pKindsIn : VSp := fun ss st Kp => ∃ k : Kd, ss = [.val k.enc] ∧ st = [] ∧ Kp (.val (.list (k.inn.map Kd.enc))) []
theorem cut_1 (x : D) (xs : List D) : Vl.cut (x :: xs) (some 1) none = xs := cut1 x xs
theorem r_kindsin {ss cs Kp} (h : pKindsIn ss cs Kp) : t_kindsin (dV cs.length Kp) ⟨startV 1 ss, cs.map some⟩ := by
  obtain ⟨k, rfl, rfl, q⟩ := h
  cases k <;> ktr_call "q0" ⟨t_kindsin_1, t_kindsin_2, t_kindsin_3, t_kindsin, Kd.enc, cut_1⟩ <;> exact q
def t_Lkind_1 (p_Ltakev2 p_Lkind : VSp) : VTS := (vRet (vN opTup (vCons (vC (.str "one")) vNil)))
def t_Lkind_2 (p_Ltakev2 p_Lkind : VSp) : VTS := (vRet (vN opTup (vCons (vC (.str "mark")) (vCons (v2 xIx (vVar 2) (vN (opCallK ownD p_Ltakev2) (vCons (vVar 0) (vCons (vN opLen (vCons (vVar 2) vNil)) vNil)))) vNil))))
def t_Lkind_3 (p_Ltakev2 p_Lkind : VSp) : VTS := vSeq (vIfS (vTest (v2 (xEq false) (vN (opCallK ownD p_Ltakev2) (vCons (vVar 0) (vCons (vC (.int 9)) vNil))) (vC (.int 8)))) (t_Lkind_1 p_Ltakev2 p_Lkind) vNext) (t_Lkind_2 p_Ltakev2 p_Lkind)
def t_Lkind_4 (p_Ltakev2 p_Lkind : VSp) : VTS := (vRet (vN opTup (vCons (vVar 4) (vCons (vN (opCallK ownD p_Lkind) (vCons (vVar 0) (vCons (vVar 3) (vCons (vVar 2) vNil)))) (vCons (vN (opCallK ownD p_Lkind) (vCons (vVar 0) (vCons (v2 opSub (vVar 1) (vVar 3)) (vCons (vVar 2) vNil)))) vNil)))))
def t_Lkind_5 (p_Ltakev2 p_Lkind : VSp) : VTS := vSeq (vSet 4 (v2 xIx (vN opLst (vCons (vC (.str "to")) (vCons (vC (.str "to")) (vCons (vC (.str "both")) vNil)))) (vN (opCallK ownD p_Ltakev2) (vCons (vVar 0) (vCons (vC (.int 3)) vNil))))) (t_Lkind_4 p_Ltakev2 p_Lkind)
def t_Lkind_6 (p_Ltakev2 p_Lkind : VSp) : VTS := vSeq (vSet 3 (v2 opAdd (vC (.int 1)) (vN (opCallK ownD p_Ltakev2) (vCons (vVar 0) (vCons (v2 opSub (vVar 1) (vC (.int 1))) vNil))))) (t_Lkind_5 p_Ltakev2 p_Lkind)
def t_Lkind_7 (p_Ltakev2 p_Lkind : VSp) : VTS := vSeq (vIfS (vTest (v2 (xEq false) (vVar 1) (vC (.int 1)))) (t_Lkind_3 p_Ltakev2 p_Lkind) vNext) (t_Lkind_6 p_Ltakev2 p_Lkind)
def t_Lkind (p_Ltakev2 p_Lkind : VSp) : VTS := (t_Lkind_7 p_Ltakev2 p_Lkind)
/-- a move along a kind -/
inductive Mv where
  | kd (k : Kd)
  | one
  | two
def Mv.enc : Mv → D
  | .kd k => k.enc
  | .one => .int 1
  | .two => .int 2
def encMs (ms : List Mv) : D := .list (ms.map Mv.enc)
abbrev ab : List Str := ["a", "b"]
theorem ab_ok : ∀ m ∈ ab, PyData.strOk m = true := by decide +kernel
def Kd.ok4 (k : Kd) : Prop := k.over ab ∧ k.leaves ≤ 4
theorem Kd.ok4.shp {k : Kd} (h : k.ok4) : Vl.shp k.enc = true := Kd.shp ab_ok h.1 (by have := h.2; omega)
theorem Kd.ok4.l {a b : Kd} (h : (Kd.to a b).ok4) : a.ok4 ∧ b.ok4 := ⟨⟨h.1.1, by have := h.2; have := b.leaves_pos; simp only [Kd.leaves] at *; omega⟩, h.1.2, by have := h.2; have := a.leaves_pos; simp only [Kd.leaves] at *; omega⟩
theorem Kd.ok4.r {a b : Kd} (h : (Kd.both a b).ok4) : a.ok4 ∧ b.ok4 := ⟨⟨h.1.1, by have := h.2; have := b.leaves_pos; simp only [Kd.leaves] at *; omega⟩, h.1.2, by have := h.2; have := a.leaves_pos; simp only [Kd.leaves] at *; omega⟩
abbrev nine : List Str := ["p", "q", "f", "g", "u", "v", "x0", "x7"]
/-- names and kinds as they may be -/
def Pg.fine : Pg → Prop
  | .name x => PyData.strOk x = true
  | .take x k p => PyData.strOk x = true ∧ k.ok4 ∧ p.fine
  | .give p q => p.fine ∧ q.fine
  | .pair p q => p.fine ∧ q.fine
  | .first p => p.fine
  | .second p => p.fine
  | .thing => True
/-- the names drawn are of nine -/
def Pg.fin9 : Pg → Prop
  | .name x => PyData.strOk x = true ∧ x ∈ nine
  | .take x k p => (PyData.strOk x = true ∧ x ∈ nine) ∧ k.ok4 ∧ p.fin9
  | .give p q => p.fin9 ∧ q.fin9
  | .pair p q => p.fin9 ∧ q.fin9
  | .first p => p.fin9
  | .second p => p.fin9
  | .thing => True
theorem Pg.fin9.fine : ∀ {p : Pg}, p.fin9 → p.fine
  | .name _, h => h.1
  | .take _ _ _, h => ⟨h.1.1, h.2.1, h.2.2.fine⟩
  | .give _ _, h => ⟨h.1.fine, h.2.fine⟩
  | .pair _ _, h => ⟨h.1.fine, h.2.fine⟩
  | .first p, h => Pg.fin9.fine (p := p) h
  | .second p, h => Pg.fin9.fine (p := p) h
  | .thing, _ => trivial
/-- a name and a row of moves -/
def encE (x : Str × List Mv) : D := .tuple [.str x.1, encMs x.2]
theorem Kd.eqv_int (a : Kd) (i : Int) : PyData.eqv a.enc (.int i) = false := by
  cases a <;> rw [Kd.enc, eqv_ti]
theorem shp_int (i : Int) : Vl.shp (.int i) = true := by
  unfold Vl.shp
  rw [can_int, depth_int]
  rfl
def row0 : List (Str × Kd) := [("p", .mark "a"), ("q", .mark "b")]
/-- the rows that are drawn -/
inductive Row : List (Str × Kd) → Prop
  | none : Row row0
  | one {k : Kd} : k.ok4 → Row (row0 ++ [(("f" : Str), k)])
  | two {k l : Kd} : k.ok4 → l.ok4 → Row (row0 ++ [(("f" : Str), k)] ++ [(("g" : Str), l)])
theorem Row.len {r : List (Str × Kd)} (h : Row r) : r.length ≤ 4 := by
  cases h <;> simp [row0]
theorem Kd.can4 {k : Kd} (h : k.ok4) : k.enc.canLay0 = true := k.can_enc ab_ok h.1
theorem Kd.dep4 {k : Kd} (h : k.ok4) : k.enc.depth ≤ 4 := by
  have := k.deep_lt
  have := h.2
  rw [k.depth_enc]
  omega
theorem Pg.can_enc : ∀ p : Pg, p.fine → p.enc.canLay0 = true
  | .name x, h => by
    have h' : PyData.strOk x = true := h
    simp only [Pg.enc, can_tup, canAll_cons, canAll_nil, can_str, h']
    decide +kernel
  | .take x k p, ⟨h1, h2, h3⟩ => by
    simp only [Pg.enc, can_tup, canAll_cons, canAll_nil, can_str, h1, k.can4 h2, p.can_enc h3]
    decide +kernel
  | .give p q, ⟨h1, h2⟩ => by
    simp only [Pg.enc, can_tup, canAll_cons, canAll_nil, can_str, p.can_enc h1, q.can_enc h2]
    decide +kernel
  | .pair p q, ⟨h1, h2⟩ => by
    simp only [Pg.enc, can_tup, canAll_cons, canAll_nil, can_str, p.can_enc h1, q.can_enc h2]
    decide +kernel
  | .first p, h => by
    have h' : p.fine := h
    simp only [Pg.enc, can_tup, canAll_cons, canAll_nil, can_str, p.can_enc h']
    decide +kernel
  | .second p, h => by
    have h' : p.fine := h
    simp only [Pg.enc, can_tup, canAll_cons, canAll_nil, can_str, p.can_enc h']
    decide +kernel
  | .thing, _ => by
    simp only [Pg.enc, can_tup, canAll_cons, canAll_nil, can_str]
    decide +kernel
theorem Pg.depth_enc : ∀ p : Pg, p.fine → p.enc.depth ≤ p.deep + 6
  | .name x, h => by
    simp only [Pg.enc, depth_tup, depthAll_cons, depthAll_nil, depth_str, Pg.deep]
    omega
  | .take x k p, ⟨h1, h2, h3⟩ => by
    have := p.depth_enc h3
    have := k.dep4 h2
    simp only [Pg.enc, depth_tup, depthAll_cons, depthAll_nil, depth_str, Pg.deep]
    omega
  | .give p q, ⟨h1, h2⟩ => by
    have := p.depth_enc h1
    have := q.depth_enc h2
    simp only [Pg.enc, depth_tup, depthAll_cons, depthAll_nil, depth_str, Pg.deep]
    omega
  | .pair p q, ⟨h1, h2⟩ => by
    have := p.depth_enc h1
    have := q.depth_enc h2
    simp only [Pg.enc, depth_tup, depthAll_cons, depthAll_nil, depth_str, Pg.deep]
    omega
  | .first p, h => by
    have := p.depth_enc h
    simp only [Pg.enc, depth_tup, depthAll_cons, depthAll_nil, depth_str, Pg.deep]
    omega
  | .second p, h => by
    have := p.depth_enc h
    simp only [Pg.enc, depth_tup, depthAll_cons, depthAll_nil, depth_str, Pg.deep]
    omega
  | .thing, _ => by
    simp only [Pg.enc, depth_tup, depthAll_cons, depthAll_nil, depth_str, Pg.deep]
    omega
/-- a part's own parts -/
def Pg.inn : Pg → List Pg
  | .name _ => []
  | .take _ _ p => [p]
  | .give p q => [p, q]
  | .pair p q => [p, q]
  | .first p => [p]
  | .second p => [p]
  | .thing => []
theorem Pg.size_pos : ∀ p : Pg, 1 ≤ p.size
  | .name _ => Nat.le_refl _
  | .take _ _ p => by simp only [Pg.size]; omega
  | .give p q => by simp only [Pg.size]; omega
  | .pair p q => by simp only [Pg.size]; omega
  | .first p => by simp only [Pg.size]; omega
  | .second p => by simp only [Pg.size]; omega
  | .thing => Nat.le_refl _
/-- what stands in a part's tuple -/
inductive It where
  | s (x : Str)
  | k (k : Kd)
  | p (p : Pg)
def It.enc : It → D
  | .s a => .str a
  | .k a => a.enc
  | .p a => a.enc
def It.pg : It → List Pg
  | .p a => [a]
  | _ => []
theorem kit_tt (ds : List D) : kitB (tyD (.tuple ds)) "tuple" = some true := by
  show kitB "tuple" "tuple" = some true
  decide +kernel
theorem i_kind {N : Nat} {ss st Kp} (h : pKind N ss st Kp) : ∃ (l c n : Int) (ms : List Str), ss = [.obj 0, .val (.int l), .val (.list (ms.map .str))] ∧ st = [.l [.int c, .int n]] ∧ PoolK n ∧ 1 ≤ l ∧ l ≤ N ∧ l < 1000 ∧ 0 < ms.length ∧ ms.length < 1000 ∧
      ∀ (k : Kd) (c' n' : Int), (k.leaves : Int) = l → k.over ms → PoolK n' → Kp (.val k.enc) [.l [.int c', .int n']] := by
  unfold pKind at h
  split at h
  · obtain ⟨a, b, c, d, ms, rfl, e, f, g⟩ := h
    exact ⟨_, _, _, ms, rfl, rfl, a, b, c, d, e, f, g⟩
  · exact h.elim
theorem r_kind {N : Nat} {ss cs Kp} (h : pKind (N + 1) ss cs Kp) : t_Lkind pTake (pKind N) (dV cs.length Kp) ⟨startV 5 ss, cs.map some⟩ := by
  obtain ⟨l, c, n, ms, rfl, rfl, pn, l1, l2, l3, m0, m1, k⟩ := i_kind h
  ktr_call "q0" ⟨t_Lkind, t_Lkind_7⟩
  split
  · ktr_call "q0" ⟨t_Lkind_3, pTake⟩
    refine ⟨pn, fun r c' n' r0 r1 pn' => ?_⟩
    split
    · ktr_call "q0" ⟨t_Lkind_1⟩
      exact k .one _ _ (by simp only [Kd.leaves]; omega) trivial pn'
    · ktr_call "q0" ⟨t_Lkind_2, pTake⟩
      refine ⟨pn', by omega, by omega, fun r c' n' r0 r1 pn' => ?_⟩
      obtain ⟨d, hd, hm⟩ := at_any (xs := ms.map PyData.str) r0 (by rw [List.length_map]; exact r1)
      obtain ⟨x, hx, rfl⟩ := List.mem_map.mp hm
      ktr_call "q0" ⟨hd⟩
      exact k (.mark x) _ _ (by simp only [Kd.leaves]; omega) hx pn'
  · ktr_call "q0" ⟨t_Lkind_6, pTake⟩
    refine ⟨pn, by omega, by omega, fun r c' n' r0 r1 pn' => ?_⟩
    ktr_call "q0" ⟨t_Lkind_5, pTake⟩
    refine ⟨pn', fun q c2 n2 q0 q1 pn2 => ?_⟩
    have both : ∀ (b : Bool) (c2 n2 : Int), PoolK n2 → t_Lkind_4 pTake (pKind N) (dV 1 Kp) ⟨[some (.obj 0), some (.val (.int l)), some (.val (.list (ms.map .str))), some (.val (.int (1 + r))), some (.val (.str (if b then "to" else "both")))], [some (.l [.int c2, .int n2])]⟩ := fun b c2 n2 pn2 => by
      ktr_call "q0" ⟨t_Lkind_4, pKind⟩
      refine ⟨pn2, by omega, by omega, by omega, ms, rfl, m0, m1, fun x c3 n3 hx ox pn3 => ⟨pn3, by omega, by omega, by omega, ms, rfl, m0, m1, fun y c4 n4 hy oy pn4 => ?_⟩⟩
      cases b with
      | true => exact k (.to x y) c4 n4 (by simp only [Kd.leaves]; omega) ⟨ox, oy⟩ pn4
      | false => exact k (.both x y) c4 n4 (by simp only [Kd.leaves]; omega) ⟨ox, oy⟩ pn4
    obtain rfl | rfl | rfl : q = 0 ∨ q = 1 ∨ q = 2 := by omega
    all_goals ktr_call "q0" "0"
    · exact both true _ _ pn2
    · exact both true _ _ pn2
    · exact both false _ _ pn2
def t_programsin_1 : VTS := (vRet (vN opLst vNil))
def t_programsin_2 : VTS := (vRet (vN opLst (vCons (v2 xIx (vVar 0) (vC (.int 3))) vNil)))
def t_programsin_3 : VTS := (vRet (vN opList (vCons (vSl opSl (vVar 0) (vPart (vC (.int 1))) vNoPart) vNil)))
def t_programsin_4 : VTS := vSeq (vIfS (vTest (v2 (xEq false) (v2 xIx (vVar 0) (vC (.int 0))) (vC (.str "take")))) (t_programsin_2) vNext) (t_programsin_3)
def t_programsin_5 : VTS := vSeq (vIfS (vTest (v2 (xIn false) (v2 xIx (vVar 0) (vC (.int 0))) (vN opTup (vCons (vC (.str "name")) (vCons (vC (.str "gap")) vNil))))) (t_programsin_1) vNext) (t_programsin_4)
def t_programsin : VTS := (t_programsin_5)
def pIn : VSp := fun ss st Kp => ∃ p : Pg, ss = [.val p.enc] ∧ st = [] ∧ Kp (.val (.list (p.inn.map Pg.enc))) []
theorem r_in {ss cs Kp} (h : pIn ss cs Kp) : t_programsin (dV cs.length Kp) ⟨startV 1 ss, cs.map some⟩ := by
  obtain ⟨p, rfl, rfl, k⟩ := h
  cases p <;> ktr_call "q1" ⟨t_programsin_1, t_programsin_2, t_programsin_3, t_programsin_4, t_programsin_5, t_programsin, Pg.enc⟩ <;> first | exact k | exact ⟨big (by decide), k⟩
theorem retA_val {d : D} {sl : List (Option Sl)} {cs : List Ob} {Kp : Sl → List Ob → Prop} (k : Kp (.val d) cs) : retA (.val d) ⟨sl, cs.map some⟩ Kp := by
  unfold retA
  rw [allS_map]
  exact k
/-- the store of kind_of and tidied: a dict of lists at n0, what is done at iK, what is to be done at iT -/
structure DS {α : Type} (F : α → D) (z : Option Ob) (st : List (Option Ob)) (n0 iK iT : Nat) (kvs : List (Ky × Nat)) (kn : Str → List α) (ks td : List D) : Prop where
  all : ∃ cs : List Ob, st = cs.map some
  d : st[n0]? = some (some (.mo kvs))
  k : st[iK]? = some (some (.l ks))
  t : st[iT]? = some (some (.l td))
  ne : iK ≠ iT
  at_ : ∀ x i, findK kvs (.inr x) = some i → st[i]? = some (some (.l ((kn x).map F))) ∧ i ≠ iK ∧ i ≠ iT
  no : ∀ x, findK kvs (.inr x) = none → kn x = []
  inj : ∀ x y i, findK kvs (.inr x) = some i → findK kvs (.inr y) = some i → x = y
  fr : ∀ ob, z = some ob → st[0]? = some (some ob) ∧ n0 ≠ 0 ∧ iK ≠ 0 ∧ iT ≠ 0 ∧ ∀ x i, findK kvs (.inr x) = some i → i ≠ 0
def putF {α : Type} (kn : Str → List α) (x : Str) (l : List α) : Str → List α := fun y => if y = x then l else kn y
section
variable {α : Type} {F : α → D} {z : Option Ob} {st : List (Option Ob)} {n0 iK iT : Nat} {kvs : List (Ky × Nat)} {kn : Str → List α} {ks td : List D}
theorem DS.mo (h : DS F z st n0 iK iT kvs kn ks td) : st.any isMo = true := by
  rw [List.any_eq_true]
  exact ⟨_, List.mem_of_getElem? h.d, rfl⟩
theorem findK_app {β : Type} {a b : List (Ky × β)} {k : Ky} : findK (a ++ b) k = match findK a k with | some x => some x | none => findK b k := by
  induction a with
  | nil => rfl
  | cons p r ih =>
    rw [List.cons_append, findK_cons, findK_cons, ih]
    by_cases e : p.1 = k
    · rw [if_pos e, if_pos e]
    · rw [if_neg e, if_neg e]
theorem DS.ret (h : DS F z st n0 iK iT kvs kn ks td) {dd : D} {sl : List (Option Sl)} {Kp : Sl → List Ob → Prop} (k : ∀ cs', DS F z (cs'.map some) n0 iK iT kvs kn ks td → Kp (.val dd) cs') : retA (.val dd) ⟨sl, st⟩ Kp := by
  obtain ⟨cs', rfl⟩ := h.all
  exact retA_val (k cs' h)
end
/-- the kind by the lists that stand by the names -/
inductive Kn : (Str → List Kd) → Pg → Kd → Prop
  | name {kn : Str → List Kd} {x : Str} {k : Kd} : (kn x).getLast? = some k → Kn kn (.name x) k
  | take {kn : Str → List Kd} {x : Str} {κ l : Kd} {p : Pg} : Kn (putF kn x (kn x ++ [κ])) p l → Kn kn (.take x κ p) (.to κ l)
  | give {kn : Str → List Kd} {a r : Kd} {p q : Pg} : Kn kn p (.to a r) → Kn kn q a → Vl.shp (Kd.to a r).enc = true → Vl.shp a.enc = true → Kn kn (.give p q) r
  | pair {kn : Str → List Kd} {a b : Kd} {p q : Pg} : Kn kn p a → Kn kn q b → Kn kn (.pair p q) (.both a b)
  | first {kn : Str → List Kd} {a b : Kd} {p : Pg} : Kn kn p (.both a b) → Kn kn (.first p) a
  | second {kn : Str → List Kd} {a b : Kd} {p : Pg} : Kn kn p (.both a b) → Kn kn (.second p) b
  | thing {kn : Str → List Kd} : Kn kn .thing .one
/-- the n-th taken name -/
def xN (n : Nat) : Str := Str.ofString ("x" ++ toString ((n : Nat) : Int))
theorem lg {n : Nat} (h : n ≤ 100000000) : (((n : Nat) : Int)).natAbs.log2 < 1920 := Nat.lt_of_lt_of_le (PySem.Flt.log2_lt_of (k := 120) (by decide) (by
  have : (((n : Nat) : Int)).natAbs = n := by omega
  rw [this]
  exact Nat.lt_of_le_of_lt h (by decide))) (by decide)
theorem lgs {n : Nat} (h : n ≤ 100000000) : ("x" ++ toString ((n : Nat) : Int)).length ≤ sizeLine := by
  have e : toString ((n : Nat) : Int) = Nat.repr n := rfl
  have : n.repr.length ≤ 9 := (Nat.length_repr_le_iff (n := n) (by decide : 0 < 9)).mpr (Nat.lt_of_le_of_lt h (by decide))
  rw [e, String.length_append]
  have l1 : "x".length = 1 := rfl
  rw [l1]
  exact big (by omega)
theorem lgx : "x".length ≤ sizeLine := big (by decide)
/-- programs whose taken names are told by how many takes stand between -/
inductive Tm where
  | ix (i : Nat)
  | nm (x : Str)
  | lam (k : Kd) (b : Tm)
  | app (a b : Tm)
  | pr (a b : Tm)
  | fst (a : Tm)
  | snd (a : Tm)
  | unit
def Pg.isTake : Pg → Bool
  | .take _ _ _ => true
  | _ => false
def Pg.isPair : Pg → Bool
  | .pair _ _ => true
  | _ => false
/-- whether a step can be done there -/
def Pg.can : Pg → Bool
  | .give a _ => a.isTake
  | .first a => a.isPair
  | .second a => a.isPair
  | _ => false
def Pg.steps : Pg → Int
  | .name _ => 0
  | .take _ _ p => p.steps
  | .give p q => p.steps + q.steps + b2i (Pg.can (.give p q))
  | .pair p q => p.steps + q.steps + b2i (Pg.can (.pair p q))
  | .first p => p.steps + b2i (Pg.can (.first p))
  | .second p => p.steps + b2i (Pg.can (.second p))
  | .thing => 0
def recG (p i : D) (s pa d t : Int) : D := .dict [(.str "Gauge", .none), (.str "program", p), (.str "inner", i), (.str "steps", .int s), (.str "parts", .int pa), (.str "deep", .int d), (.str "takes", .int t)]
/-- what a gauge tells -/
structure Gv where
  p : Pg
  inner : List D
  takes : Nat
def Gv.enc (g : Gv) : D := recG g.p.enc (.tuple g.inner) g.p.steps (g.p.size : Nat) (g.p.deep : Nat) (g.takes : Nat)
inductive Bt where
  | g (v : Gv)
  | lam (x : Str) (κ : Kd) (p : Pg) (n : Nat) (b : Bt)
  | two (w : Bool) (p q : Pg) (m : Int) (a b : Bt)
  | half (w : Bool) (p : Pg) (m : Int) (a : Bt)
def Bt.ok : Bt → Prop
  | .g _ => True
  | .lam _ _ _ n b => n ≤ 60000000 ∧ b.ok
  | .two _ _ _ _ a b => a.ok ∧ b.ok
  | .half _ _ _ a => a.ok
/-- what is still to be done: a part, or the name of a take that is left -/
inductive Td where
  | p (q : Pg)
  | x (y : Str)
def Td.enc : Td → D
  | .p q => q.enc
  | .x y => .str y
theorem atI_last {α : Type} (ds : List α) : atI ds (-1) = ds.getLast? := by
  unfold atI ixN
  rw [if_neg (by decide), List.getLast?_eq_getElem?]
  by_cases q : 0 < ds.length
  · rw [if_pos (by omega)]
    show ds[((-1 : Int) + (ds.length : Int)).toNat]? = _
    rw [show ((-1 : Int) + (ds.length : Int)).toNat = ds.length - 1 by omega]
  · rw [if_neg (by omega)]
    have : ds = [] := List.eq_nil_of_length_eq_zero (by omega)
    subst this
    rfl
def Tm.gv (n : Nat) : Tm → Gv
  | .ix i => ⟨.name (xN (n - 1 - i)), [], n - i⟩
  | .nm x => ⟨.name x, [], 0⟩
  | .lam κ b => ⟨.take (xN n) κ (b.gv (n + 1)).p, [(b.gv (n + 1)).enc], max (b.gv (n + 1)).takes (n + 1)⟩
  | .app a b => ⟨.give (a.gv n).p (b.gv n).p, [(a.gv n).enc, (b.gv n).enc], max (a.gv n).takes (b.gv n).takes⟩
  | .pr a b => ⟨.pair (a.gv n).p (b.gv n).p, [(a.gv n).enc, (b.gv n).enc], max (a.gv n).takes (b.gv n).takes⟩
  | .fst a => ⟨.first (a.gv n).p, [(a.gv n).enc], (a.gv n).takes⟩
  | .snd a => ⟨.second (a.gv n).p, [(a.gv n).enc], (a.gv n).takes⟩
  | .unit => ⟨.thing, [], 0⟩
def Tm.moved (c k : Nat) : Tm → Tm
  | .ix i => .ix (if c ≤ i then i + k else i)
  | .nm x => .nm x
  | .lam κ b => .lam κ (b.moved (c + 1) k)
  | .app a b => .app (a.moved c k) (b.moved c k)
  | .pr a b => .pr (a.moved c k) (b.moved c k)
  | .fst a => .fst (a.moved c k)
  | .snd a => .snd (a.moved c k)
  | .unit => .unit
def Tm.put (c : Nat) : Tm → Tm → Tm
  | .ix i, g => if i = c then g.moved 0 c else .ix (if c < i then i - 1 else i)
  | .nm x, _ => .nm x
  | .lam κ b, g => .lam κ (b.put (c + 1) g)
  | .app a b, g => .app (a.put c g) (b.put c g)
  | .pr a b, g => .pr (a.put c g) (b.put c g)
  | .fst a, g => .fst (a.put c g)
  | .snd a, g => .snd (a.put c g)
  | .unit, _ => .unit
def Tm.sz : Tm → Nat
  | .ix _ => 1
  | .nm _ => 1
  | .lam _ b => b.sz + 1
  | .app a b => a.sz + b.sz + 1
  | .pr a b => a.sz + b.sz + 1
  | .fst a => a.sz + 1
  | .snd a => a.sz + 1
  | .unit => 1
/-- its own parts, with how many takes stand round them -/
def Tm.inn (m : Nat) : Tm → List (Tm × Nat)
  | .lam _ b => [(b, m + 1)]
  | .app a b => [(a, m), (b, m)]
  | .pr a b => [(a, m), (b, m)]
  | .fst a => [(a, m)]
  | .snd a => [(a, m)]
  | _ => []
theorem putM_fnd {k k' : Ky} {d : D} : ∀ {kvs : List (Ky × D)}, findK (putM kvs k d) k' = if k' = k then some d else findK kvs k' := by
  have upd : ∀ kvs : List (Ky × D), findK (kvs.map fun kv => if kv.1 = k then (kv.1, d) else kv) k' = if k' = k then (if (kvs.any fun kv => decide (kv.1 = k)) = true then some d else none) else findK kvs k' := by
    intro kvs
    induction kvs with
    | nil => simp [findK]
    | cons p r ih =>
      rw [List.map_cons, findK_cons, ih, findK_cons, List.any_cons]
      by_cases e : k' = k
      · subst e
        by_cases h : p.1 = k'
        · simp [h]
        · rw [if_neg h, if_neg h, if_pos rfl, if_pos rfl, decide_eq_false h, Bool.false_or]
      · by_cases h : p.1 = k
        · have : ¬ k = k' := fun z => e z.symm
          simp [h, e, this]
        · simp [h, e]
  intro kvs
  unfold putM
  split
  · rename_i h
    rw [upd, h]
    simp
  · rename_i h
    rw [findK_app]
    have hn : findK kvs k = none := by
      rw [findK_any] at h
      cases q : findK kvs k with
      | none => rfl
      | some x =>
        rw [q] at h
        exact (h rfl).elim
    by_cases e : k' = k
    · subst e
      rw [hn, if_pos rfl, findK_cons, if_pos rfl]
    · rw [if_neg e, findK_cons, if_neg fun z => e z.symm]
      cases findK kvs k' <;> rfl
abbrev eS (s0 : D) (tk : Nat) (s4 s5 s6 s7 : Option Sl) (pl wy : List D) : En := ⟨[some (.val s0), some (.obj 0), some (.obj 1), some (.val (.int (tk : Nat))), s4, s5, s6, s7], [some (.l pl), some (.l wy)]⟩
/-- the part of a program at a place -/
def Pg.prt : List Nat → Pg → Option Pg
  | [], p => some p
  | i :: r, p => match p.inn[i]? with
    | some q => Pg.prt r q
    | none => none
abbrev plD (pl : List Nat) : List D := pl.map fun i => .int ((i : Nat) : Int)
/-- how many takes stand between a name and its own; the innermost first -/
def idxR (x : Str) : List Str → Option Nat
  | [] => none
  | y :: r => if y = x then some 0 else (idxR x r).map (· + 1)
def Pg.bare (rt : List Str) : Pg → Tm
  | .name x => (match idxR x rt with
    | some i => .ix i
    | none => .nm x)
  | .take x κ p => .lam κ (p.bare (x :: rt))
  | .give p q => .app (p.bare rt) (q.bare rt)
  | .pair p q => .pr (p.bare rt) (q.bare rt)
  | .first p => .fst (p.bare rt)
  | .second p => .snd (p.bare rt)
  | .thing => .unit
def Tm.enc : Tm → D
  | .ix i => .tuple [.str "at", .int ((i : Nat) : Int)]
  | .nm x => .tuple [.str "name", .str x]
  | .lam κ b => .tuple [.str "take", .str "", κ.enc, b.enc]
  | .app a b => .tuple [.str "give", a.enc, b.enc]
  | .pr a b => .tuple [.str "pair", a.enc, b.enc]
  | .fst a => .tuple [.str "first", a.enc]
  | .snd a => .tuple [.str "second", a.enc]
  | .unit => .tuple [.str "thing"]
def Tm.deep : Tm → Nat
  | .ix _ => 0
  | .nm _ => 0
  | .lam _ b => b.deep + 1
  | .app a b => max a.deep b.deep + 1
  | .pr a b => max a.deep b.deep + 1
  | .fst a => a.deep + 1
  | .snd a => a.deep + 1
  | .unit => 0
abbrev encPl (pl : List Nat) : D := .list (plD pl)
def row14 : List (Str × Kd) := [("pa", .mark "a"), ("fa", .to (.mark "a") (.mark "a")), ("pb", .mark "b"), ("fb", .to (.mark "b") (.mark "b"))]
def Kd.ok3 (k : Kd) : Prop := k.over ab ∧ k.leaves ≤ 3
theorem Kd.ok3.four {k : Kd} (h : k.ok3) : k.ok4 := ⟨h.1, by have := h.2; omega⟩
structure Known3 (r : List (Str × Kd)) : Prop where
  each : ∀ x ∈ r, PyData.strOk x.1 = true ∧ x.2.ok3
  pa : look r "pa" = some (.mark "a")
  pb : look r "pb" = some (.mark "b")
  fa : look r "fa" = some (.to (.mark "a") (.mark "a"))
  fb : look r "fb" = some (.to (.mark "b") (.mark "b"))
theorem Kd.ok3.shp {k : Kd} (h : k.ok3) : Vl.shp k.enc = true := h.four.shp
theorem known14 : Known3 row14 := by
  refine ⟨?_, by decide +kernel, by decide +kernel, by decide +kernel, by decide +kernel⟩
  unfold row14
  simp only [List.mem_cons, List.not_mem_nil, or_false, forall_eq_or_imp, forall_eq, Kd.ok3, Kd.over, Kd.leaves]
  decide +kernel
theorem strOk_of2 (s : String) : PyData.strOk (Str.ofString s) = true := by
  unfold PyData.strOk
  rw [Array.all_eq_true']
  intro c hc
  rw [Str.ofString_eq_toList] at hc
  obtain ⟨ch, _, rfl⟩ := List.mem_map.mp (List.mem_toArray.mp hc)
  refine decide_eq_true ?_
  have v := ch.valid
  show ch.val.toNat < 1114112
  rcases v with v | v
  · exact Nat.lt_trans v (by decide)
  · exact v.2
theorem strOk_xN (n : Nat) : PyData.strOk (xN n) = true := strOk_of2 _
def Tm.fine : Tm → Prop
  | .ix _ => True
  | .nm x => PyData.strOk x = true
  | .lam κ b => κ.ok4 ∧ b.fine
  | .app a b => a.fine ∧ b.fine
  | .pr a b => a.fine ∧ b.fine
  | .fst a => a.fine
  | .snd a => a.fine
  | .unit => True
/-- what is drawn -/
structure Dr (p : Pg) : Prop where
  fine : p.fine
  size : p.size ≤ 3500
  deep : p.deep ≤ 24
theorem Dr.of {p : Pg} (h1 : p.fine) (h2 : p.size ≤ 3400) (h3 : p.deep ≤ 23) : Dr p := ⟨h1, by omega, by omega⟩
theorem Pg.eqvI (a b : Pg) : PyData.eqv a.enc b.enc = true ↔ a = b := by
  induction a generalizing b with
  | name x => cases b <;> simp only [Pg.enc, eqv_tup, eqvAll_cons, eqvAll_nil, eqvAll_nc, eqvAll_cn, eqv_str, ofs_inj, String.reduceEq, decide_true, decide_false, Bool.true_and, Bool.false_and, Bool.and_true, Bool.and_eq_true, decide_eq_true_eq, reduceCtorEq, Bool.false_eq_true, Pg.name.injEq]
  | take x k p ih => cases b <;> simp only [Pg.enc, eqv_tup, eqvAll_cons, eqvAll_nil, eqvAll_nc, eqvAll_cn, eqv_str, ofs_inj, String.reduceEq, decide_true, decide_false, Bool.true_and, Bool.false_and, Bool.and_true, Bool.and_eq_true, decide_eq_true_eq, reduceCtorEq, Bool.false_eq_true, Pg.take.injEq, Kd.eqv_iff, ih]
  | give p q ihp ihq => cases b <;> simp only [Pg.enc, eqv_tup, eqvAll_cons, eqvAll_nil, eqvAll_nc, eqvAll_cn, eqv_str, ofs_inj, String.reduceEq, decide_true, decide_false, Bool.true_and, Bool.false_and, Bool.and_true, Bool.and_eq_true, decide_eq_true_eq, reduceCtorEq, Bool.false_eq_true, Pg.give.injEq, ihp, ihq]
  | pair p q ihp ihq => cases b <;> simp only [Pg.enc, eqv_tup, eqvAll_cons, eqvAll_nil, eqvAll_nc, eqvAll_cn, eqv_str, ofs_inj, String.reduceEq, decide_true, decide_false, Bool.true_and, Bool.false_and, Bool.and_true, Bool.and_eq_true, decide_eq_true_eq, reduceCtorEq, Bool.false_eq_true, Pg.pair.injEq, ihp, ihq]
  | first p ih => cases b <;> simp only [Pg.enc, eqv_tup, eqvAll_cons, eqvAll_nil, eqvAll_nc, eqvAll_cn, eqv_str, ofs_inj, String.reduceEq, decide_true, decide_false, Bool.true_and, Bool.false_and, Bool.and_true, Bool.and_eq_true, decide_eq_true_eq, reduceCtorEq, Bool.false_eq_true, Pg.first.injEq, ih]
  | second p ih => cases b <;> simp only [Pg.enc, eqv_tup, eqvAll_cons, eqvAll_nil, eqvAll_nc, eqvAll_cn, eqv_str, ofs_inj, String.reduceEq, decide_true, decide_false, Bool.true_and, Bool.false_and, Bool.and_true, Bool.and_eq_true, decide_eq_true_eq, reduceCtorEq, Bool.false_eq_true, Pg.second.injEq, ih]
  | thing => cases b <;> simp only [Pg.enc, eqv_tup, eqvAll_cons, eqvAll_nil, eqvAll_nc, eqvAll_cn, eqv_str, ofs_inj, String.reduceEq, decide_true, decide_false, Bool.true_and, Bool.false_and, Bool.and_true, Bool.and_eq_true, decide_eq_true_eq, reduceCtorEq, Bool.false_eq_true]
abbrev eN (p ps g : D) (s4 s5 : Option Sl) (log : List (List Nat)) : En := ⟨[some (.val p), some (.val ps), some (.val g), some (.obj 0), s4, s5], [some (.l (log.map encPl))]⟩
theorem mv_merge (t : Tm) : ∀ {c c' j k : Nat}, c ≤ c' → c' ≤ c + j → (t.moved c j).moved c' k = t.moved c (j + k) := by
  induction t with
  | ix i =>
    intro c c' j k h1 h2
    simp only [Tm.moved, Tm.ix.injEq]
    split <;> split <;> omega
  | nm x => intro c c' j k h1 h2; rfl
  | unit => intro c c' j k h1 h2; rfl
  | lam κ b ih => intro c c' j k h1 h2; simp only [Tm.moved, ih (Nat.succ_le_succ h1) (show c' + 1 ≤ c + 1 + j by omega)]
  | app a b iha ihb => intro c c' j k h1 h2; simp only [Tm.moved, iha h1 h2, ihb h1 h2]
  | pr a b iha ihb => intro c c' j k h1 h2; simp only [Tm.moved, iha h1 h2, ihb h1 h2]
  | fst a ih => intro c c' j k h1 h2; simp only [Tm.moved, ih h1 h2]
  | snd a ih => intro c c' j k h1 h2; simp only [Tm.moved, ih h1 h2]
theorem mv_comm (t : Tm) : ∀ {c c' j k : Nat}, c' ≤ c → (t.moved c j).moved c' k = (t.moved c' k).moved (c + k) j := by
  induction t with
  | ix i =>
    intro c c' j k h
    by_cases h1 : c ≤ i <;> by_cases h2 : c' ≤ i <;> first | omega | (simp (disch := omega) only [Tm.moved, if_pos, if_neg]; try (first | rfl | (simp only [Tm.ix.injEq]; omega)))
  | nm x => intro c c' j k h; rfl
  | unit => intro c c' j k h; rfl
  | lam κ b ih =>
    intro c c' j k h
    have := ih (c := c + 1) (c' := c' + 1) (j := j) (k := k) (by omega)
    rw [show c + 1 + k = c + k + 1 by omega] at this
    simp only [Tm.moved, this]
  | app a b iha ihb => intro c c' j k h; simp only [Tm.moved, iha h, ihb h]
  | pr a b iha ihb => intro c c' j k h; simp only [Tm.moved, iha h, ihb h]
  | fst a ih => intro c c' j k h; simp only [Tm.moved, ih h]
  | snd a ih => intro c c' j k h; simp only [Tm.moved, ih h]
theorem put_mvA (t g : Tm) : ∀ {c c' k : Nat}, c' ≤ c → (t.put c g).moved c' k = (t.moved c' k).put (c + k) g := by
  induction t with
  | ix i =>
    intro c c' k h
    have mm := mv_merge g (c := 0) (c' := c') (j := c) (k := k) (Nat.zero_le _) (by omega)
    rcases Nat.lt_trichotomy i c with h2 | h2 | h2 <;> by_cases h1 : c' ≤ i <;> first | omega | (simp (disch := omega) only [Tm.put, Tm.moved, if_pos, if_neg, mm]; try (first | rfl | (simp only [Tm.ix.injEq]; omega)))
  | nm x => intro c c' k h; rfl
  | unit => intro c c' k h; rfl
  | lam κ b ih =>
    intro c c' k h
    have := ih (c := c + 1) (c' := c' + 1) (k := k) (by omega)
    rw [show c + 1 + k = c + k + 1 by omega] at this
    simp only [Tm.put, Tm.moved, this]
  | app a b iha ihb => intro c c' k h; simp only [Tm.put, Tm.moved, iha h, ihb h]
  | pr a b iha ihb => intro c c' k h; simp only [Tm.put, Tm.moved, iha h, ihb h]
  | fst a ih => intro c c' k h; simp only [Tm.put, Tm.moved, ih h]
  | snd a ih => intro c c' k h; simp only [Tm.put, Tm.moved, ih h]
theorem put_mvB (t g : Tm) : ∀ {d c k : Nat}, (t.put d g).moved (d + c) k = (t.moved (d + c + 1) k).put d (g.moved c k) := by
  induction t with
  | ix i =>
    intro d c k
    have mm := mv_comm g (c := c) (c' := 0) (j := k) (k := d) (Nat.zero_le c)
    rw [Nat.add_comm c d] at mm
    rcases Nat.lt_trichotomy i d with h2 | h2 | h2 <;> by_cases h1 : d + c + 1 ≤ i <;> first | omega | (simp (disch := omega) only [Tm.put, Tm.moved, if_pos, if_neg, mm]; try (first | rfl | (simp only [Tm.ix.injEq]; omega)))
  | nm x => intro d c k; rfl
  | unit => intro d c k; rfl
  | lam κ b ih =>
    intro d c k
    have := ih (d := d + 1) (c := c) (k := k)
    rw [show d + 1 + c = d + c + 1 by omega] at this
    simp only [Tm.put, Tm.moved, this]
  | app a b iha ihb => intro d c k; simp only [Tm.put, Tm.moved, iha, ihb]
  | pr a b iha ihb => intro d c k; simp only [Tm.put, Tm.moved, iha, ihb]
  | fst a ih => intro d c k; simp only [Tm.put, Tm.moved, ih]
  | snd a ih => intro d c k; simp only [Tm.put, Tm.moved, ih]
theorem mv_put (t g : Tm) : ∀ {c j k : Nat}, j ≤ k → (t.moved c (k + 1)).put (c + j) g = t.moved c k := by
  induction t with
  | ix i =>
    intro c j k h
    by_cases h1 : c ≤ i <;> (simp (disch := omega) only [Tm.put, Tm.moved, if_pos, if_neg]; try (first | rfl | (simp only [Tm.ix.injEq]; omega)))
  | nm x => intro c j k h; rfl
  | unit => intro c j k h; rfl
  | lam κ b ih =>
    intro c j k h
    have := ih (c := c + 1) h
    rw [show c + 1 + j = c + j + 1 by omega] at this
    simp only [Tm.put, Tm.moved, this]
  | app a b iha ihb => intro c j k h; simp only [Tm.put, Tm.moved, iha h, ihb h]
  | pr a b iha ihb => intro c j k h; simp only [Tm.put, Tm.moved, iha h, ihb h]
  | fst a ih => intro c j k h; simp only [Tm.put, Tm.moved, ih h]
  | snd a ih => intro c j k h; simp only [Tm.put, Tm.moved, ih h]
theorem put_put (t a g : Tm) : ∀ {d c : Nat}, (t.put d a).put (d + c) g = (t.put (d + c + 1) g).put d (a.put c g) := by
  induction t with
  | ix i =>
    intro d c
    have m1 := put_mvA a g (c := c) (c' := 0) (k := d) (Nat.zero_le _)
    rw [Nat.add_comm c d] at m1
    have m2 := mv_put g (a.put c g) (c := 0) (j := d) (k := d + c) (by omega)
    rw [Nat.zero_add] at m2
    rcases Nat.lt_trichotomy i d with h2 | h2 | h2 <;> rcases Nat.lt_trichotomy i (d + c + 1) with h1 | h1 | h1 <;> first | omega | skip
    · simp (disch := omega) only [Tm.put, if_pos, if_neg]
    · subst h2; simp (disch := omega) only [Tm.put, if_pos, if_neg, if_true, m1]
    · simp (disch := omega) only [Tm.put, if_pos, if_neg]
    · subst h1; simp (disch := omega) only [Tm.put, if_pos, if_neg, if_true, Nat.add_sub_cancel, m2]
    · simp (disch := omega) only [Tm.put, if_pos, if_neg]
  | nm x => intro d c; rfl
  | unit => intro d c; rfl
  | lam κ b ih =>
    intro d c
    have := ih (d := d + 1) (c := c)
    rw [show d + 1 + c = d + c + 1 by omega] at this
    simp only [Tm.put, this]
  | app a' b iha ihb => intro d c; simp only [Tm.put, iha, ihb]
  | pr a' b iha ihb => intro d c; simp only [Tm.put, iha, ihb]
  | fst a' ih => intro d c; simp only [Tm.put, ih]
  | snd a' ih => intro d c; simp only [Tm.put, ih]
/-- steps at many places at once -/
inductive Par : Tm → Tm → Prop
  | ix {i : Nat} : Par (.ix i) (.ix i)
  | nm {x : Str} : Par (.nm x) (.nm x)
  | unit : Par .unit .unit
  | lam {κ : Kd} {b b' : Tm} : Par b b' → Par (.lam κ b) (.lam κ b')
  | app {a a' b b' : Tm} : Par a a' → Par b b' → Par (.app a b) (.app a' b')
  | pr {a a' b b' : Tm} : Par a a' → Par b b' → Par (.pr a b) (.pr a' b')
  | fst {a a' : Tm} : Par a a' → Par (.fst a) (.fst a')
  | snd {a a' : Tm} : Par a a' → Par (.snd a) (.snd a')
  | beta {κ : Kd} {b b' g g' : Tm} : Par b b' → Par g g' → Par (.app (.lam κ b) g) (b'.put 0 g')
  | p1 {a a' b : Tm} : Par a a' → Par (.fst (.pr a b)) a'
  | p2 {a b b' : Tm} : Par b b' → Par (.snd (.pr a b)) b'
theorem Par.refl : ∀ t : Tm, Par t t
  | .ix _ => .ix
  | .nm _ => .nm
  | .unit => .unit
  | .lam _ b => .lam (Par.refl b)
  | .app a b => .app (Par.refl a) (Par.refl b)
  | .pr a b => .pr (Par.refl a) (Par.refl b)
  | .fst a => .fst (Par.refl a)
  | .snd a => .snd (Par.refl a)
theorem Par.mv {t t' : Tm} (h : Par t t') : ∀ c k, Par (t.moved c k) (t'.moved c k) := by
  induction h with
  | ix => intro c k; exact Par.refl _
  | nm => intro c k; exact .nm
  | unit => intro c k; exact .unit
  | lam _ ih => intro c k; exact .lam (ih _ _)
  | app _ _ i1 i2 => intro c k; exact .app (i1 _ _) (i2 _ _)
  | pr _ _ i1 i2 => intro c k; exact .pr (i1 _ _) (i2 _ _)
  | fst _ ih => intro c k; exact .fst (ih _ _)
  | snd _ ih => intro c k; exact .snd (ih _ _)
  | beta _ _ i1 i2 =>
    intro c k
    rename_i b b' a a' _ _
    have := put_mvB b' a' (d := 0) (c := c) (k := k)
    rw [Nat.zero_add] at this
    rw [this]
    exact .beta (i1 _ _) (i2 _ _)
  | p1 _ ih => intro c k; exact .p1 (ih _ _)
  | p2 _ ih => intro c k; exact .p2 (ih _ _)
theorem Par.put {t t' g g' : Tm} (h : Par t t') (hg : Par g g') : ∀ c, Par (t.put c g) (t'.put c g') := by
  induction h with
  | ix =>
    intro c
    simp only [Tm.put]
    split
    · exact hg.mv _ _
    · exact Par.refl _
  | nm => intro c; exact .nm
  | unit => intro c; exact .unit
  | lam _ ih => intro c; exact .lam (ih _)
  | app _ _ i1 i2 => intro c; exact .app (i1 _) (i2 _)
  | pr _ _ i1 i2 => intro c; exact .pr (i1 _) (i2 _)
  | fst _ ih => intro c; exact .fst (ih _)
  | snd _ ih => intro c; exact .snd (ih _)
  | beta _ _ i1 i2 =>
    intro c
    rename_i b b' a a' _ _
    have := put_put b' a' g' (d := 0) (c := c)
    rw [Nat.zero_add] at this
    rw [this]
    exact .beta (i1 _) (i2 _)
  | p1 _ ih => intro c; exact .p1 (ih _)
  | p2 _ ih => intro c; exact .p2 (ih _)
/-- all steps done that can be done at once -/
def Tm.dev : Tm → Tm
  | .ix i => .ix i
  | .nm x => .nm x
  | .unit => .unit
  | .lam κ b => .lam κ b.dev
  | .app a b => (match a with
    | .lam _ c => c.dev.put 0 b.dev
    | a => .app a.dev b.dev)
  | .pr a b => .pr a.dev b.dev
  | .fst a => (match a with
    | .pr x _ => x.dev
    | a => .fst a.dev)
  | .snd a => (match a with
    | .pr _ y => y.dev
    | a => .snd a.dev)
theorem Par.dev {t t' : Tm} (h : Par t t') : Par t' t.dev := by
  induction h with
  | ix => exact .ix
  | nm => exact .nm
  | unit => exact .unit
  | lam _ ih => exact .lam ih
  | pr _ _ i1 i2 => exact .pr i1 i2
  | beta _ _ i1 i2 => exact i1.put i2 0
  | p1 _ ih => exact ih
  | p2 _ ih => exact ih
  | @app a a' b b' h1 h2 i1 i2 =>
    cases h1 with
    | lam h =>
      cases i1 with
      | lam i => exact .beta i i2
    | _ => exact .app i1 i2
  | @fst a a' h ih =>
    cases h with
    | pr x y =>
      cases ih with
      | pr i j => exact .p1 i
    | _ => exact .fst ih
  | @snd a a' h ih =>
    cases h with
    | pr x y =>
      cases ih with
      | pr i j => exact .p2 j
    | _ => exact .snd ih
theorem Par.mono {t t' : Tm} (h : Par t t') : Par t.dev t'.dev := h.dev.dev
abbrev toI (r : List Nat) : List Int := r.map fun i => ((i : Nat) : Int)
theorem four (b g : Nat) : 4 * (b * g) ≤ (b + g) * (b + g) := by
  rcases Nat.le_total b g with h | h
  · obtain ⟨d, rfl⟩ := Nat.exists_eq_add_of_le h
    have := Nat.mul_comm d b
    simp only [Nat.mul_add, Nat.add_mul]
    omega
  · obtain ⟨d, rfl⟩ := Nat.exists_eq_add_of_le h
    have := Nat.mul_comm d g
    simp only [Nat.mul_add, Nat.add_mul]
    omega
abbrev Sp := Pg × List Nat
def tk : Pg → Nat
  | .take _ _ _ => 1
  | _ => 0
theorem HasK.kd2 {r : List (Str × Kd)} {p : Pg} {k : Kd} (h : HasK r p k) : (∀ x ∈ r, x.2.ok4) → p.fine → k.over ab ∧ k.deep ≤ 3 + p.deep := by
  induction h with
  | name h =>
    rename_i r x k
    intro hr _
    obtain ⟨h1, h2⟩ := hr _ (look_mem h)
    exact ⟨h1, by have := k.deep_lt; simp only [Pg.deep]; simp only at h2; omega⟩
  | take _ ih =>
    intro hr hf
    rename_i r x κ l p _
    obtain ⟨a, b⟩ := ih (fun y hy => by
      rcases List.mem_append.mp hy with hy | hy
      · exact hr y hy
      · rw [List.mem_singleton.mp hy]
        exact hf.2.1) hf.2.2
    have := κ.deep_lt
    have := hf.2.1.2
    exact ⟨⟨hf.2.1.1, a⟩, by simp only [Kd.deep, Pg.deep]; omega⟩
  | give _ _ i1 i2 =>
    intro hr hf
    obtain ⟨a, b⟩ := i1 hr hf.1
    simp only [Kd.deep] at b
    exact ⟨a.2, by simp only [Pg.deep]; omega⟩
  | pair _ _ i1 i2 =>
    intro hr hf
    obtain ⟨a, b⟩ := i1 hr hf.1
    obtain ⟨a', b'⟩ := i2 hr hf.2
    exact ⟨⟨a, a'⟩, by simp only [Kd.deep, Pg.deep]; omega⟩
  | first _ i =>
    intro hr hf
    obtain ⟨a, b⟩ := i hr hf
    simp only [Kd.deep] at b
    exact ⟨a.1, by simp only [Pg.deep]; omega⟩
  | second _ i =>
    intro hr hf
    obtain ⟨a, b⟩ := i hr hf
    simp only [Kd.deep] at b
    exact ⟨a.2, by simp only [Pg.deep]; omega⟩
  | thing =>
    intro _ _
    exact ⟨trivial, Nat.zero_le _⟩
theorem Kd.shpE {k : Kd} (h : k.over ab) (hd : k.deep ≤ 150) : Vl.shp k.enc = true := by
  unfold Vl.shp
  rw [k.can_enc ab_ok h, k.depth_enc, decide_eq_true (by omega)]
  rfl
theorem HasK.kn2 {r : List (Str × Kd)} {p : Pg} {k : Kd} (h : HasK r p k) : (∀ x ∈ r, x.2.ok4) → p.fine → p.deep ≤ 140 → ∀ kn : Str → List Kd, (∀ x, (kn x).getLast? = look r x) → Kn kn p k := by
  induction h with
  | name h => intro _ _ _ kn e; exact .name (by rw [e]; exact h)
  | take _ ih =>
    intro hr hf hd kn e
    rename_i r x κ l p _
    simp only [Pg.deep] at hd
    refine .take (ih (fun y hy => by
      rcases List.mem_append.mp hy with hy | hy
      · exact hr y hy
      · rw [List.mem_singleton.mp hy]
        exact hf.2.1) hf.2.2 (by omega) _ fun y => ?_)
    rw [look_app]
    unfold putF
    by_cases c : y = x
    · subst c
      rw [if_pos rfl, if_pos rfl]
      simp
    · rw [if_neg c, if_neg fun z => c z.symm]
      exact e y
  | give h1 h2 i1 i2 =>
    intro hr hf hd kn e
    simp only [Pg.deep] at hd
    obtain ⟨a, b⟩ := h1.kd2 hr hf.1
    obtain ⟨a', b'⟩ := h2.kd2 hr hf.2
    exact .give (i1 hr hf.1 (by omega) kn e) (i2 hr hf.2 (by omega) kn e) (Kd.shpE a (by omega)) (Kd.shpE a' (by omega))
  | pair _ _ i1 i2 =>
    intro hr hf hd kn e
    simp only [Pg.deep] at hd
    exact .pair (i1 hr hf.1 (by omega) kn e) (i2 hr hf.2 (by omega) kn e)
  | first _ i =>
    intro hr hf hd kn e
    simp only [Pg.deep] at hd
    exact .first (i hr hf (by omega) kn e)
  | second _ i =>
    intro hr hf hd kn e
    simp only [Pg.deep] at hd
    exact .second (i hr hf (by omega) kn e)
  | thing => intro _ _ _ _ _; exact .thing
theorem row14_ok4 : ∀ x ∈ row14, x.2.ok4 := fun x hx => Kd.ok3.four (known14.each x hx).2
/-- a program that is on its way -/
structure Wy18 (κ : Kd) (p : Pg) : Prop where
  has : HasK row14 p κ
  fine : p.fine
  size : p.size ≤ 3000000
  deep : p.deep ≤ 100
theorem Wy18.kn {κ : Kd} {p : Pg} (h : Wy18 κ p) : Kn (fun x => (look row14 x).toList) p κ :=
  h.has.kn2 row14_ok4 h.fine (by have := h.deep; omega) _ fun x => by cases look row14 x <;> rfl
/-- the places in the order of leaving -/
def Pg.post : Pg → List (List Nat)
  | .name _ => [[]]
  | .thing => [[]]
  | .take _ _ p => p.post.map (0 :: ·) ++ [[]]
  | .first p => p.post.map (0 :: ·) ++ [[]]
  | .second p => p.post.map (0 :: ·) ++ [[]]
  | .give p q => p.post.map (0 :: ·) ++ q.post.map (1 :: ·) ++ [[]]
  | .pair p q => p.post.map (0 :: ·) ++ q.post.map (1 :: ·) ++ [[]]
abbrev Lv := Sp × Bool
def lv : Lv → List (List Nat)
  | ((p, pl), false) => p.post.map (pl ++ ·)
  | ((_, pl), true) => [pl]
/-- what the dict of names holds behind the first i pairs -/
structure Dn (K : PySem.W.Frag) (F : Hp) (r : List (Str × Kd)) (kvs : List (L2.Key × V)) : Prop where
  keys : ∃ ks : List Str, kvs.map (·.1) = ks.map Sum.inr ∧ ks.length ≤ r.length
  at_ : ∀ x k, look r x = some k → ∃ v, valV kvs (Sum.inr x) = some v ∧ At K F k.enc v
  no : ∀ x, look r x = none → valV kvs (Sum.inr x) = none
theorem Dn.nil {K : PySem.W.Frag} {F : Hp} : Dn K F [] [] := ⟨⟨[], rfl, Nat.le_refl _⟩, fun x k h => (nomatch (show (none : Option Kd) = some k from h)), fun x _ => rfl⟩
theorem Dn.put {K : PySem.W.Frag} {F : Hp} {r : List (Str × Kd)} {kvs : List (L2.Key × V)} (d : Dn K F r kvs) {x : Str} {k : Kd} {v : V} (h : At K F k.enc v) : Dn K F (r ++ [(x, k)]) (putK kvs (Sum.inr x) v) := by
  obtain ⟨ks, h1, h2⟩ := d.keys
  refine ⟨?_, fun y l e => ?_, fun y e => ?_⟩
  · cases z : valV kvs (Sum.inr x) with
    | none =>
      rw [putK_new v z]
      exact ⟨ks ++ [x], by simp [h1], by simp; omega⟩
    | some u =>
      refine ⟨ks, ?_, by simp; omega⟩
      unfold putK
      rw [valV_any, z]
      simp only [Option.isSome_some, if_true, List.map_map]
      rw [← h1]
      refine List.map_congr_left fun p _ => ?_
      show (if p.1 = Sum.inr x then (p.1, v) else p).1 = p.1
      split <;> rfl
  · rw [look_app] at e
    rw [valV_put]
    split at e
    · rename_i hx
      cases e
      subst hx
      exact ⟨v, by rw [if_pos rfl], h⟩
    · rename_i hx
      obtain ⟨u, h3, h4⟩ := d.at_ y l e
      exact ⟨u, by rw [if_neg (fun z => hx (Sum.inr.inj z).symm)]; exact h3, h4⟩
  · rw [look_app] at e
    rw [valV_put]
    split at e
    · cases e
    · rename_i hx
      rw [if_neg (fun z => hx (Sum.inr.inj z).symm)]
      exact d.no y e
def t_ismark_1 : VTS := (vRet (vC (.bool false)))
def t_ismark_2 : VTS := (vRet (vAG true (vStrI (vVar 0)) [none] [0] (vgName 0) (v2 (opInS false) (vVar 0) (vC (.str "abcdefghijklmnopqrstuvwxyz")))))
def t_ismark_3 : VTS := vSeq (vIfS (vOrT (vNotT (vTest (vIsi "str" (vVar 0)))) (vNotT (vTest (vChain opLe opLe (vC (.int 1)) (vN opLen (vCons (vVar 0) vNil)) (vC (.int 6)))))) (t_ismark_1) vNext) (t_ismark_2)
def t_ismark : VTS := (t_ismark_3)
def t_hasformv2_1 (p_ismark : VSp) : VTS := (vRet (vC (.bool false)))
def t_hasformv2_2 (p_ismark : VSp) : VTS := (vRet (vC (.bool false)))
def t_hasformv2_3 (p_ismark : VSp) : VTS := (vRet (vOrV (v2 (xEq true) (vVar 1) (vC (.str "mark"))) (vN (opCallK ownD p_ismark) (vCons (v2 xIx (vVar 0) (vC (.int 1))) vNil))))
def t_hasformv2_4 (p_ismark : VSp) : VTS := vSeq (vIfS (vOrT (vNotT (vTest (vIsi "str" (vVar 1)))) (vTest (v2 (xEq true) (vKGet (tabI [("mark", 2), ("one", 1), ("to", 3), ("both", 3)]) (vVar 1)) (vN opLen (vCons (vVar 0) vNil))))) (t_hasformv2_2 p_ismark) vNext) (t_hasformv2_3 p_ismark)
def t_hasformv2_5 (p_ismark : VSp) : VTS := vSeq (vSet 1 (v2 xIx (vVar 0) (vC (.int 0)))) (t_hasformv2_4 p_ismark)
def t_hasformv2_6 (p_ismark : VSp) : VTS := vSeq (vIfS (vOrT (vNotT (vTest (vIsi "tuple" (vVar 0)))) (vTest (v2 (xEq false) (vN opLen (vCons (vVar 0) vNil)) (vC (.int 0))))) (t_hasformv2_1 p_ismark) vNext) (t_hasformv2_5 p_ismark)
def t_hasformv2 (p_ismark : VSp) : VTS := (t_hasformv2_6 p_ismark)
def isK (k : Kd) : Bool := decide (k.leaves ≤ 24) && decide (k.deep ≤ 12)
def encKp (x : Kd × Nat) : D := .tuple [x.1.enc, .int (x.2 : Nat)]
def lvK : List (Kd × Nat) → Nat
  | [] => 0
  | x :: xs => x.1.leaves + lvK xs
theorem lvK_app (a b : List (Kd × Nat)) : lvK (a ++ b) = lvK a + lvK b := by
  induction a with
  | nil => simp [lvK]
  | cons x a ih => simp only [List.cons_append, lvK, ih]; omega
def ndK : List (Kd × Nat) → Nat
  | [] => 0
  | x :: xs => x.1.nodes + ndK xs
theorem ndK_app (a b : List (Kd × Nat)) : ndK (a ++ b) = ndK a + ndK b := by
  induction a with
  | nil => simp [ndK]
  | cons x a ih => simp only [List.cons_append, ndK, ih]; omega
def dpK : List (Kd × Nat) → Nat
  | [] => 0
  | x :: xs => max (x.1.deep + x.2) (dpK xs)
theorem dpK_app (a b : List (Kd × Nat)) : dpK (a ++ b) = max (dpK a) (dpK b) := by
  induction a with
  | nil => simp [dpK]
  | cons x a ih => simp only [List.cons_append, dpK, ih]; omega
def innK (k : Kd) (n : Nat) : List (Kd × Nat) := k.inn.map fun x => (x, n + 1)
theorem innK_at (k : Kd) (n : Nat) : ndK (innK k n) + 1 = k.nodes ∧ max n (dpK (innK k n)) = k.deep + n ∧ (if k.inn.isEmpty then 1 else 0) + lvK (innK k n) = k.leaves ∧ (innK k n).length ≤ 2 := by
  cases k <;> simp [innK, Kd.inn, ndK, dpK, lvK, Kd.nodes, Kd.deep, Kd.leaves] <;> omega
theorem ndK_len (xs : List (Kd × Nat)) : xs.length ≤ ndK xs := by
  induction xs with
  | nil => exact Nat.le_refl _
  | cons x xs ih =>
    have : 1 ≤ x.1.nodes := by cases x.1 <;> simp only [Kd.nodes] <;> omega
    simp only [ndK, List.length_cons]
    omega
theorem tabI_at {kvs : List (Str × Int)} {z : Str} {i : Int} (h : kvs.lookup z = some i) : tabI kvs z = .int i := by
  unfold tabI
  rw [h]
theorem kit_ss (z : Str) : kitB (tyD (.str z)) "str" = some true := by
  show kitB "str" "str" = some true
  decide +kernel
def inS (L : Str) (c : Nat) : Bool := decide (c ∈ L.cps.toList)
theorem ag_sign (L : Str) {st : List (Option Ob)} {Kp : Bool → En → Prop} : ∀ (cs : List Nat) (s : Option Sl), (∀ s0, Kp (cs.all (inS L)) ⟨[s0], st⟩) → ag true (vgName 0) (v2 (opInS false) (vVar 0) (vC (.str L))) none [0] (cs.map fun c => PyData.str ⟨#[c]⟩) ⟨[s], st⟩ Kp
  | [], s, h => h s
  | c :: cs, s, h => by
    rw [List.map_cons]
    ktr_call "q2" ⟨ag⟩
    rw [opInS_one]
    ktr_call "q2" "0"
    rw [List.all_cons] at h
    split
    · rename_i hc
      refine ag_sign L cs none fun s0 => ?_
      have := h s0
      rw [show inS L c = true from decide_eq_true hc, Bool.true_and] at this
      exact this
    · rename_i hc
      rw [decide_eq_false hc]
      have := h (some (.val (.str ⟨#[c]⟩)))
      rw [show inS L c = false from decide_eq_false hc, Bool.false_and] at this
      exact this
def isMk (z : Str) : Bool := decide (1 ≤ z.cps.size) && (decide (z.cps.size ≤ 6) && z.cps.toList.all (inS "abcdefghijklmnopqrstuvwxyz"))
def pMkT : VSp := fun ss st Kp => (∃ z : Str, z.cps.size ≤ 1000 ∧ ss = [.val (.str z)] ∧ st = [] ∧ Kp (.val (.bool (isMk z))) []) ∨ (ss = [.val (.int 3)] ∧ st = [] ∧ Kp (.val (.bool false)) [])
theorem r_ismark {ss cs Kp} (h : pMkT ss cs Kp) : t_ismark (dV cs.length Kp) ⟨startV 1 ss, cs.map some⟩ := by
  rcases h with ⟨z, hz, rfl, rfl, q⟩ | ⟨rfl, rfl, q⟩
  · have el : z.length = z.cps.size := rfl
    ktr_call "q2" ⟨t_ismark, t_ismark_3, vIsi, vChain⟩
    refine ⟨true, kit_ss _, ?_⟩
    rw [if_neg (by decide)]
    refine ⟨big (by omega), ?_⟩
    unfold isMk at q
    split
    · rename_i h1
      rw [decide_eq_true (show 1 ≤ z.cps.size by omega), Bool.true_and] at q
      split
      · rename_i h2
        have h2' : ¬ (z.cps.size ≤ 6) := by
          intro h3
          rw [decide_eq_true (by omega)] at h2
          cases h2
        ktr_call "q2" ⟨t_ismark_1⟩
        rw [decide_eq_false h2', Bool.false_and] at q
        exact q
      · rename_i h2
        have h2' : z.cps.size ≤ 6 := by
          by_cases h3 : z.cps.size ≤ 6
          · exact h3
          · exact absurd (by rw [decide_eq_false (by omega)]; rfl) h2
        rw [decide_eq_true h2', Bool.true_and] at q
        ktr_call "q2" ⟨t_ismark_2, vAG, vStrI⟩
        exact ag_sign _ z.cps.toList _ fun s0 => q
    · rename_i h1
      ktr_call "q2" ⟨t_ismark_1⟩
      rw [decide_eq_false (show ¬ 1 ≤ z.cps.size by omega), Bool.false_and] at q
      exact q
  · ktr_call "q2" ⟨t_ismark, t_ismark_3, t_ismark_1, vIsi, vChain⟩
    refine ⟨false, by show kitB "int" "str" = some false; decide +kernel, ?_⟩
    rw [if_pos (by decide)]
    exact q
def t_iskind_1 (p_hasformv2 p_kindsin : VSp) : VTS := (vRet (vC (.bool false)))
def t_iskind_2 (p_hasformv2 p_kindsin : VSp) : VTS := (vAug (fun a b => a + b) 1 (vC (.int 1)))
def t_iskind_3 (p_hasformv2 p_kindsin : VSp) : VTS := (vRet (vC (.bool false)))
def t_iskind_4 (p_hasformv2 p_kindsin : VSp) : VTS := (vDrop (vM "list" opAppend (vVar 2) (vCons (vN opTup (vCons (vVar 6) (vCons (v2 opAdd (vVar 4) (vC (.int 1))) vNil))) vNil)))
def t_iskind_5 (p_hasformv2 p_kindsin : VSp) : VTS := (vForW (vSeqI (vVar 5)) (vgName 6)
        (t_iskind_4 p_hasformv2 p_kindsin))
def t_iskind_6 (p_hasformv2 p_kindsin : VSp) : VTS := vSeq (vIfS (vTest (v2 opGt (vVar 1) (vC (.int 24)))) (t_iskind_3 p_hasformv2 p_kindsin) vNext) (t_iskind_5 p_hasformv2 p_kindsin)
def t_iskind_7 (p_hasformv2 p_kindsin : VSp) : VTS := vSeq (vIfS (vNotT (vTruth (vVar 5))) (t_iskind_2 p_hasformv2 p_kindsin) vNext) (t_iskind_6 p_hasformv2 p_kindsin)
def t_iskind_8 (p_hasformv2 p_kindsin : VSp) : VTS := vSeq (vSet 5 (vN (opCallK ownD p_kindsin) (vCons (vVar 3) vNil))) (t_iskind_7 p_hasformv2 p_kindsin)
def t_iskind_9 (p_hasformv2 p_kindsin : VSp) : VTS := vSeq (vIfS (vOrT (vTest (v2 opGt (vVar 4) (vC (.int 12)))) (vNotT (vTruth (vN (opCallK ownD p_hasformv2) (vCons (vVar 3) vNil))))) (t_iskind_1 p_hasformv2 p_kindsin) vNext) (t_iskind_8 p_hasformv2 p_kindsin)
def t_iskind_10 (p_hasformv2 p_kindsin : VSp) : VTS := vSeq (vAsg (vM0 "list" xPop (vVar 2)) (vgTup 2 (vgCons (vgName 3) (vgCons (vgName 4) vgNil)))) (t_iskind_9 p_hasformv2 p_kindsin)
def t_iskind_11 (p_hasformv2 p_kindsin : VSp) : VTS := (vRet (vC (.bool true)))
def t_iskind_12 (p_hasformv2 p_kindsin : VSp) : VTS := vSeq (vWhileW (vTruth (vVar 2))
      (t_iskind_10 p_hasformv2 p_kindsin)) (t_iskind_11 p_hasformv2 p_kindsin)
def t_iskind_13 (p_hasformv2 p_kindsin : VSp) : VTS := vSeq (vSet 2 (vN opLstO (vCons (vN opTup (vCons (vVar 0) (vCons (vC (.int 0)) vNil))) vNil))) (t_iskind_12 p_hasformv2 p_kindsin)
def t_iskind_14 (p_hasformv2 p_kindsin : VSp) : VTS := vSeq (vSet 1 (vC (.int 0))) (t_iskind_13 p_hasformv2 p_kindsin)
def t_iskind (p_hasformv2 p_kindsin : VSp) : VTS := (t_iskind_14 p_hasformv2 p_kindsin)
def t_waysof_1 : VTS := (vDrop (vM "list" opAppend (vVar 1) (vCons (vN opTup (vCons (vVar 4) (vCons (v2 xIx (vVar 3) (vC (.int 1))) vNil))) vNil)))
def t_waysof_2 : VTS := (vDrop (vM "list" opAppend (vVar 2) (vCons (vN opTup (vCons (v2 xIx (vVar 3) (vC (.int 2))) (vCons (v2 opAdd (vVar 4) (vN opLst (vCons (v2 xIx (vVar 3) (vC (.int 1))) vNil))) vNil))) vNil)))
def t_waysof_3 : VTS := (vDrop (vM "list" opAppend (vVar 2) (vCons (vN opTup (vCons (v2 xIx (vVar 3) (vC (.int 1))) (vCons (v2 opAdd (vVar 4) (vN opLst (vCons (vC (.int 1)) vNil))) vNil))) vNil)))
def t_waysof_4 : VTS := vSeq (vDrop (vM "list" opAppend (vVar 2) (vCons (vN opTup (vCons (v2 xIx (vVar 3) (vC (.int 2))) (vCons (v2 opAdd (vVar 4) (vN opLst (vCons (vC (.int 2)) vNil))) vNil))) vNil))) (t_waysof_3)
def t_waysof_5 : VTS := (vIfS (vTest (v2 (xEq false) (v2 xIx (vVar 3) (vC (.int 0))) (vC (.str "both")))) (t_waysof_4) vNext)
def t_waysof_6 : VTS := (vIfS (vTest (v2 (xEq false) (v2 xIx (vVar 3) (vC (.int 0))) (vC (.str "to")))) (t_waysof_2) (t_waysof_5))
def t_waysof_7 : VTS := (vIfS (vTest (v2 (xEq false) (v2 xIx (vVar 3) (vC (.int 0))) (vC (.str "mark")))) (t_waysof_1) (t_waysof_6))
def t_waysof_8 : VTS := vSeq (vAsg (vM0 "list" xPop (vVar 2)) (vgTup 2 (vgCons (vgName 3) (vgCons (vgName 4) vgNil)))) (t_waysof_7)
def t_waysof_9 : VTS := (vRet (vVar 1))
def t_waysof_10 : VTS := vSeq (vWhileW (vTruth (vVar 2))
      (t_waysof_8)) (t_waysof_9)
def t_waysof_11 : VTS := vSeq (vSet 2 (vN opLstO (vCons (vN opTup (vCons (vVar 0) (vCons (vN opLst vNil) vNil))) vNil))) (t_waysof_10)
def t_waysof_12 : VTS := vSeq (vSet 1 (vN opLstO vNil)) (t_waysof_11)
def t_waysof : VTS := (t_waysof_12)
def t_spotsof_1 (p_readspot p_readframe : VSp) : VTS := (vAsg (vN opLenM (vCons (vVar 3) vNil)) (xgDSub (vVar 3) (vVar 4)))
def t_spotsof_2 (p_readspot p_readframe : VSp) : VTS := (vSet 10 (vN (opCallK ownD p_readspot) (vCons (vVar 8) (vCons (v2 xIx (vVar 1) (vC (.int 1))) (vCons (vVar 9) (vCons (vVar 3) (vCons (vVar 6) vNil)))))))
def t_spotsof_3 (p_readspot p_readframe : VSp) : VTS := (vSet 10 (vN (opCallK ownD p_readframe) (vCons (vVar 8) (vCons (vVar 1) (vCons (vVar 9) (vCons (vN opLen (vCons (vVar 0) vNil)) vNil))))))
def t_spotsof_4 (p_readspot p_readframe : VSp) : VTS := (vAsg (vN opLen (vCons (vVar 9) vNil)) (xgDSub (vVar 3) (vJoinC "x" (vFmt (v2 opSub (vN opLen (vCons (vVar 9) vNil)) (vN opLen (vCons (vVar 0) vNil)))))))
def t_spotsof_5 (p_readspot p_readframe : VSp) : VTS := (vRet (vC .none))
def t_spotsof_6 (p_readspot p_readframe : VSp) : VTS := (vDrop (vM "list" opExtend (vVar 7) (vCons (v1 opRev (vVar 10)) vNil)))
def t_spotsof_7 (p_readspot p_readframe : VSp) : VTS := vSeq (vIfS (vTest (v2 (xIsN false) (vVar 10) (vC .none))) (t_spotsof_5 p_readspot p_readframe) vNext) (t_spotsof_6 p_readspot p_readframe)
def t_spotsof_8 (p_readspot p_readframe : VSp) : VTS := vSeq (vIfS (vTest (v2 (xEq false) (v2 xIx (vVar 1) (vC (.int 0))) (vC (.str "to")))) (t_spotsof_4 p_readspot p_readframe) vNext) (t_spotsof_7 p_readspot p_readframe)
def t_spotsof_9 (p_readspot p_readframe : VSp) : VTS := vSeq (vIfS (vTest (v2 (xEq false) (v2 xIx (vVar 1) (vC (.int 0))) (vC (.str "mark")))) (t_spotsof_2 p_readspot p_readframe) (t_spotsof_3 p_readspot p_readframe)) (t_spotsof_8 p_readspot p_readframe)
def t_spotsof_10 (p_readspot p_readframe : VSp) : VTS := vSeq (vAsg (vM0 "list" xPop (vVar 7)) (vgTup 3 (vgCons (vgName 1) (vgCons (vgName 8) (vgCons (vgName 9) vgNil))))) (t_spotsof_9 p_readspot p_readframe)
def t_spotsof_11 (p_readspot p_readframe : VSp) : VTS := (vRet (vVar 6))
def t_spotsof_12 (p_readspot p_readframe : VSp) : VTS := vSeq (vWhileW (vTruth (vVar 7))
      (t_spotsof_10 p_readspot p_readframe)) (t_spotsof_11 p_readspot p_readframe)
def t_spotsof_13 (p_readspot p_readframe : VSp) : VTS := vSeq (vSet 7 (vN opLstO (vCons (vN opTup (vCons (vVar 1) (vCons (vVar 2) (vCons (vN opTuple (vCons (vLcK (vSeqI (vVar 0)) (vgTup 2 (vgCons (vgName 4) (vgCons (vgName 5) vgNil))) vYes (vVar 5) [4, 5] finD) vNil)) vNil)))) vNil))) (t_spotsof_12 p_readspot p_readframe)
def t_spotsof_14 (p_readspot p_readframe : VSp) : VTS := vSeq (vSet 6 (vN opLstO vNil)) (t_spotsof_13 p_readspot p_readframe)
def t_spotsof_15 (p_readspot p_readframe : VSp) : VTS := vSeq (vForW (vSeqI (vVar 0)) (vgTup 2 (vgCons (vgName 4) (vgCons (vgName 5) vgNil)))
      (t_spotsof_1 p_readspot p_readframe)) (t_spotsof_14 p_readspot p_readframe)
def t_spotsof_16 (p_readspot p_readframe : VSp) : VTS := vSeq (vSet 3 vDctM) (t_spotsof_15 p_readspot p_readframe)
def t_spotsof (p_readspot p_readframe : VSp) : VTS := (t_spotsof_16 p_readspot p_readframe)
def t_hasword_1 : VTS := (vRet (vC (.bool false)))
def t_hasword_2 : VTS := (vRet (vAndV (vIsi "str" (v2 xIx (vVar 0) (vC (.int 0)))) (v2 (xEq false) (v2 xIx (vVar 0) (vC (.int 0))) (vVar 1))))
def t_hasword_3 : VTS := vSeq (vIfS (vOrT (vNotT (vTest (vIsi "tuple" (vVar 0)))) (vTest (v2 (xEq true) (vN opLen (vCons (vVar 0) vNil)) (vKIx (fun z => ([("name", .int 2), ("take", .int 4), ("give", .int 3), ("pair", .int 3), ("first", .int 2), ("second", .int 2), ("thing", .int 1)] : List (Str × D)).lookup z) (vVar 1))))) (t_hasword_1) vNext) (t_hasword_2)
def t_hasword : VTS := (t_hasword_3)
def t_readframe_1 (p_hasword p_iskind : VSp) : VTS := (vRet (vIfE (vTruth (vN (opCallK ownD p_hasword) (vCons (vVar 0) (vCons (vC (.str "thing")) vNil)))) (vN opLst vNil) (vC .none)))
def t_readframe_2 (p_hasword p_iskind : VSp) : VTS := (vRet (vC .none))
def t_readframe_3 (p_hasword p_iskind : VSp) : VTS := (vRet (vN opLst (vCons (vN opTup (vCons (v2 xIx (vVar 1) (vC (.int 1))) (vCons (v2 xIx (vVar 0) (vC (.int 1))) (vCons (vVar 2) vNil)))) (vCons (vN opTup (vCons (v2 xIx (vVar 1) (vC (.int 2))) (vCons (v2 xIx (vVar 0) (vC (.int 2))) (vCons (vVar 2) vNil)))) vNil))))
def t_readframe_4 (p_hasword p_iskind : VSp) : VTS := vSeq (vIfS (vNotT (vTruth (vN (opCallK ownD p_hasword) (vCons (vVar 0) (vCons (vC (.str "pair")) vNil))))) (t_readframe_2 p_hasword p_iskind) vNext) (t_readframe_3 p_hasword p_iskind)
def t_readframe_5 (p_hasword p_iskind : VSp) : VTS := (vRet (vC .none))
def t_readframe_6 (p_hasword p_iskind : VSp) : VTS := (vRet (vC .none))
def t_readframe_7 (p_hasword p_iskind : VSp) : VTS := (vRet (vN opLst (vCons (vN opTup (vCons (v2 xIx (vVar 1) (vC (.int 2))) (vCons (v2 xIx (vVar 0) (vC (.int 3))) (vCons (v2 opAdd (vVar 2) (vN opTup (vCons (v2 xIx (vVar 1) (vC (.int 1))) vNil))) vNil)))) vNil)))
def t_readframe_8 (p_hasword p_iskind : VSp) : VTS := vSeq (vIfS (vOrT (vTest (v2 (xEq true) (v2 xIx (vVar 0) (vC (.int 1))) (vJoinC "x" (vFmt (v2 opSub (vN opLen (vCons (vVar 2) vNil)) (vVar 3)))))) (vTest (v2 (xEq true) (v2 xIx (vVar 0) (vC (.int 2))) (v2 xIx (vVar 1) (vC (.int 1)))))) (t_readframe_6 p_hasword p_iskind) vNext) (t_readframe_7 p_hasword p_iskind)
def t_readframe_9 (p_hasword p_iskind : VSp) : VTS := vSeq (vIfS (vOrT (vNotT (vTruth (vN (opCallK ownD p_hasword) (vCons (vVar 0) (vCons (vC (.str "take")) vNil))))) (vOrT (vNotT (vTest (vIsi "str" (v2 xIx (vVar 0) (vC (.int 1)))))) (vNotT (vTruth (vN (opCallK ownD p_iskind) (vCons (v2 xIx (vVar 0) (vC (.int 2))) vNil)))))) (t_readframe_5 p_hasword p_iskind) vNext) (t_readframe_8 p_hasword p_iskind)
def t_readframe_10 (p_hasword p_iskind : VSp) : VTS := vSeq (vIfS (vTest (v2 (xEq false) (v2 xIx (vVar 1) (vC (.int 0))) (vC (.str "both")))) (t_readframe_4 p_hasword p_iskind) vNext) (t_readframe_9 p_hasword p_iskind)
def t_readframe_11 (p_hasword p_iskind : VSp) : VTS := vSeq (vIfS (vTest (v2 (xEq false) (v2 xIx (vVar 1) (vC (.int 0))) (vC (.str "one")))) (t_readframe_1 p_hasword p_iskind) vNext) (t_readframe_10 p_hasword p_iskind)
def t_readframe (p_hasword p_iskind : VSp) : VTS := (t_readframe_11 p_hasword p_iskind)
def t_readspot_1 (p_hasword p_gonealong : VSp) : VTS := (vRet (vC .none))
def t_readspot_2 (p_hasword p_gonealong : VSp) : VTS := (vSet 0 (v2 xIx (vVar 0) (vC (.int 1))))
def t_readspot_3 (p_hasword p_gonealong : VSp) : VTS := vSeq (vDrop (vM "list" opAppend (vVar 5) (vCons (vVar 0) vNil))) (t_readspot_2 p_hasword p_gonealong)
def t_readspot_4 (p_hasword p_gonealong : VSp) : VTS := vSeq (vIfS (vNotT (vTest (vAG false (vTupI (vC (.tuple [.str "first", .str "second", .str "give"]))) [none, some 0] [0] (vgName 0) (vN (opCallK ownD p_hasword) (vCons (vVar 1) (vCons (vVar 0) vNil)))))) (t_readspot_1 p_hasword p_gonealong) vNext) (t_readspot_3 p_hasword p_gonealong)
def t_readspot_5 (p_hasword p_gonealong : VSp) : VTS := (vRet (vC .none))
def t_readspot_6 (p_hasword p_gonealong : VSp) : VTS := (vRet (vC .none))
def t_readspot_7 (p_hasword p_gonealong : VSp) : VTS := (vRet (v2 xIx (vVar 7) (vC (.int 2))))
def t_readspot_8 (p_hasword p_gonealong : VSp) : VTS := vSeq (vDrop (vM "list" opAppend (vVar 4) (vCons (vN opTup (vCons (vVar 2) (vCons (vVar 6) (vCons (v2 xIx (vVar 7) (vC (.int 1))) (vCons (vVar 1) vNil))))) vNil))) (t_readspot_7 p_hasword p_gonealong)
def t_readspot_9 (p_hasword p_gonealong : VSp) : VTS := vSeq (vIfS (vOrT (vTest (v2 (xIsN false) (vVar 7) (vC .none))) (vTest (v2 (xEq true) (v2 xIx (vVar 7) (vC (.int 0))) (vN opTup (vCons (vC (.str "mark")) (vCons (vVar 1) vNil)))))) (t_readspot_6 p_hasword p_gonealong) vNext) (t_readspot_8 p_hasword p_gonealong)
def t_readspot_10 (p_hasword p_gonealong : VSp) : VTS := vSeq (vSet 7 (vN (opCallK ownD p_gonealong) (vCons (v2 xIx (vVar 2) (vVar 6)) (vCons (v1 opRev (vVar 5)) (vCons (vVar 2) vNil))))) (t_readspot_9 p_hasword p_gonealong)
def t_readspot_11 (p_hasword p_gonealong : VSp) : VTS := vSeq (vIfS (vTest (v2 opGe (vVar 6) (vN opLen (vCons (vVar 2) vNil)))) (t_readspot_5 p_hasword p_gonealong) vNext) (t_readspot_10 p_hasword p_gonealong)
def t_readspot_12 (p_hasword p_gonealong : VSp) : VTS := vSeq (vSet 6 (vIfE (vTest (vIsi "str" (v2 xIx (vVar 0) (vC (.int 1))))) (vDGet2 (vVar 3) (v2 xIx (vVar 0) (vC (.int 1))) (vN opLen (vCons (vVar 2) vNil))) (vN opLen (vCons (vVar 2) vNil)))) (t_readspot_11 p_hasword p_gonealong)
def t_readspot_13 (p_hasword p_gonealong : VSp) : VTS := vSeq (vWhileW (vNotT (vTruth (vN (opCallK ownD p_hasword) (vCons (vVar 0) (vCons (vC (.str "name")) vNil)))))
      (t_readspot_4 p_hasword p_gonealong)) (t_readspot_12 p_hasword p_gonealong)
def t_readspot_14 (p_hasword p_gonealong : VSp) : VTS := vSeq (vSet 5 (vN opLstO vNil)) (t_readspot_13 p_hasword p_gonealong)
def t_readspot (p_hasword p_gonealong : VSp) : VTS := (t_readspot_14 p_hasword p_gonealong)
def t_gonealong_1 (p_waysof : VSp) : VTS := (vRet (vC .none))
def t_gonealong_2 (p_waysof : VSp) : VTS := (vDrop (vM "list" opAppend (vVar 4) (vCons (vN opTup (vCons (v2 xIx (vVar 0) (vC (.int 1))) (vCons (v2 xIx (vVar 5) (vC (.int 2))) (vCons (vVar 2) vNil)))) vNil)))
def t_gonealong_3 (p_waysof : VSp) : VTS := (vAug (fun a b => a + b) 3 (vN opLen (vCons (vN (opCallK ownD p_waysof) (vCons (v2 xIx (vVar 0) (vC (.int 1))) vNil)) vNil)))
def t_gonealong_4 (p_waysof : VSp) : VTS := (vIfS (vTest (v2 (xEq false) (v2 xIx (vVar 5) (vC (.int 0))) (vC (.str "second")))) (t_gonealong_3 p_waysof) vNext)
def t_gonealong_5 (p_waysof : VSp) : VTS := (vSet 0 (vIfE (vTest (v2 (xEq false) (v2 xIx (vVar 5) (vC (.int 0))) (vC (.str "first")))) (v2 xIx (vVar 0) (vC (.int 1))) (v2 xIx (vVar 0) (vC (.int 2)))))
def t_gonealong_6 (p_waysof : VSp) : VTS := vSeq (vIfS (vTest (v2 (xEq false) (v2 xIx (vVar 5) (vC (.int 0))) (vC (.str "give")))) (t_gonealong_2 p_waysof) (t_gonealong_4 p_waysof)) (t_gonealong_5 p_waysof)
def t_gonealong_7 (p_waysof : VSp) : VTS := vSeq (vIfS (vTest (v2 (xEq true) (v2 xIx (vVar 0) (vC (.int 0))) (vIfE (vTest (v2 (xEq false) (v2 xIx (vVar 5) (vC (.int 0))) (vC (.str "give")))) (vC (.str "to")) (vC (.str "both"))))) (t_gonealong_1 p_waysof) vNext) (t_gonealong_6 p_waysof)
def t_gonealong_8 (p_waysof : VSp) : VTS := (vRet (vN opTup (vCons (vVar 0) (vCons (vVar 3) (vCons (vVar 4) vNil)))))
def t_gonealong_9 (p_waysof : VSp) : VTS := vSeq (vForW (vSeqI (vVar 1)) (vgName 5)
      (t_gonealong_7 p_waysof)) (t_gonealong_8 p_waysof)
def t_gonealong_10 (p_waysof : VSp) : VTS := vSeq (vSet 4 (vN opLstO vNil)) (t_gonealong_9 p_waysof)
def t_gonealong_11 (p_waysof : VSp) : VTS := vSeq (vSet 3 (vC (.int 0))) (t_gonealong_10 p_waysof)
def t_gonealong (p_waysof : VSp) : VTS := (t_gonealong_11 p_waysof)
structure Spt where
  S : List Kd
  i : Nat
  w : Nat
  m : Str
def encSpt (s : Spt) : D := .tuple [.tuple (s.S.map Kd.enc), .int (s.i : Nat), .int (s.w : Nat), .str s.m]
theorem xN_ne {a b : Nat} (h : xN a = xN b) : a = b := by
  have h1 : "x" ++ toString ((a : Nat) : Int) = "x" ++ toString ((b : Nat) : Int) := by
    unfold xN at h
    rw [ofs_inj] at h
    exact h
  have h2 : toString ((a : Nat) : Int) = toString ((b : Nat) : Int) := by
    have := congrArg String.toList h1
    simp only [String.toList_append] at this
    exact String.toList_inj.mp (List.append_cancel_left this)
  have h3 : Nat.repr a = Nat.repr b := h2
  exact Nat.repr_inj.mp h3
open Classical in
/-- the number of a name -/
noncomputable def nmAt (rn : List Str) (z : Str) : Option Nat := if z ∈ rn then some (rn.idxOf z) else if h : ∃ k, z = xN k then some (rn.length + h.choose) else none
theorem nmAt_in {rn : List Str} {z : Str} (h : z ∈ rn) : nmAt rn z = some (rn.idxOf z) := by
  unfold nmAt
  rw [if_pos h]
theorem nmAt_x {rn : List Str} {k : Nat} (h : xN k ∉ rn) : nmAt rn (xN k) = some (rn.length + k) := by
  unfold nmAt
  rw [if_neg h]
  have e : ∃ j, xN k = xN j := ⟨k, rfl⟩
  rw [dif_pos e]
  rw [← xN_ne e.choose_spec]
theorem nmAt_no {rn : List Str} {z : Str} (h : z ∉ rn) (hx : ∀ k, z ≠ xN k) : nmAt rn z = none := by
  unfold nmAt
  rw [if_neg h, dif_neg fun ⟨k, e⟩ => hx k e]
def Kd.nways : Kd → Nat
  | .mark _ => 1
  | .one => 0
  | .to _ b => b.nways
  | .both a b => a.nways + b.nways
inductive Mo where
  | fst
  | snd
  | giv (q : Pg)
/-- the head and the moves behind it -/
def Pg.spine : Pg → Pg × List Mo
  | .first p => (p.spine.1, p.spine.2 ++ [.fst])
  | .second p => (p.spine.1, p.spine.2 ++ [.snd])
  | .give p q => (p.spine.1, p.spine.2 ++ [.giv q])
  | p => (p, [])
def goK : Kd → List Mo → Option (Kd × Nat × List (Kd × Pg))
  | k, [] => some (k, 0, [])
  | .both a _, .fst :: ms => goK a ms
  | .both a b, .snd :: ms => (goK b ms).map fun r => (r.1, a.nways + r.2.1, r.2.2)
  | .to a b, .giv q :: ms => (goK b ms).map fun r => (r.1, r.2.1, (a, q) :: r.2.2)
  | _, _ :: _ => none
def stepK : Kd × Nat × List (Kd × Pg) → Mo → Option (Kd × Nat × List (Kd × Pg))
  | (.both a _, w, L), .fst => some (a, w, L)
  | (.both a b, w, L), .snd => some (b, w + a.nways, L)
  | (.to a b, w, L), .giv q => some (b, w, L ++ [(a, q)])
  | _, _ => none
theorem goK_nil (k : Kd) : goK k [] = some (k, 0, []) := by cases k <;> rfl
theorem goK_snoc : ∀ (ms : List Mo) (k : Kd) (m : Mo), goK k (ms ++ [m]) = (goK k ms).bind fun r => stepK r m
  | [], k, m => by
    cases k <;> cases m <;> simp [goK, stepK]
  | x :: ms, k, m => by
    rw [List.cons_append]
    cases k with
    | mark _ => cases x <;> rfl
    | one => cases x <;> rfl
    | to a b =>
      cases x with
      | giv q =>
        simp only [goK]
        rw [goK_snoc ms b m]
        cases goK b ms with
        | none => rfl
        | some r =>
          obtain ⟨k', w, L⟩ := r
          simp only [Option.map_some, Option.bind_some]
          cases k' <;> cases m <;> simp [stepK]
      | _ => rfl
    | both a b =>
      cases x with
      | giv q => rfl
      | fst =>
        simp only [goK]
        exact goK_snoc ms a m
      | snd =>
        simp only [goK]
        rw [goK_snoc ms b m]
        cases goK b ms with
        | none => rfl
        | some r =>
          obtain ⟨k', w, L⟩ := r
          simp only [Option.map_some, Option.bind_some]
          cases k' <;> cases m <;> simp [stepK] <;> omega
def finS (S : List Kd) (m : Str) : Option (Kd × Nat × Nat × List Spt) → Option (List Spt)
  | some (.mark m', i, w, L) => if m' = m then some (⟨S, i, w, m⟩ :: L) else none
  | _ => none
/-- a kind that is one -/
def kdOk (k : Kd) : Prop := k.leaves ≤ 24 ∧ k.deep ≤ 12
instance (k : Kd) : Decidable (kdOk k) := inferInstanceAs (Decidable (_ ∧ _))
/-- along a name with moves; of a kind -/
noncomputable def AB (rn : List Str) : Pg → (List Kd → Option (Kd × Nat × Nat × List Spt)) × (List Kd → Kd → Option (List Spt))
  | .name x =>
    let A : List Kd → Option (Kd × Nat × Nat × List Spt) := fun S => (nmAt rn x).bind fun i => (S[i]?).map fun k => (k, i, 0, [])
    (A, fun S κ => match κ with
      | .mark m => finS S m (A S)
      | _ => none)
  | .first q =>
    let A : List Kd → Option (Kd × Nat × Nat × List Spt) := fun S => match (AB rn q).1 S with
      | some (.both a _, i, w, L) => some (a, i, w, L)
      | _ => none
    (A, fun S κ => match κ with
      | .mark m => finS S m (A S)
      | _ => none)
  | .second q =>
    let A : List Kd → Option (Kd × Nat × Nat × List Spt) := fun S => match (AB rn q).1 S with
      | some (.both a b, i, w, L) => some (b, i, w + a.nways, L)
      | _ => none
    (A, fun S κ => match κ with
      | .mark m => finS S m (A S)
      | _ => none)
  | .give q r =>
    let A : List Kd → Option (Kd × Nat × Nat × List Spt) := fun S => match (AB rn q).1 S with
      | some (.to a b, i, w, L) => ((AB rn r).2 S a).map fun L' => (b, i, w, L ++ L')
      | _ => none
    (A, fun S κ => match κ with
      | .mark m => finS S m (A S)
      | _ => none)
  | .pair q r => (fun _ => none, fun S κ => match κ with
      | .both a b => ((AB rn q).2 S a).bind fun x => ((AB rn r).2 S b).map fun y => x ++ y
      | _ => none)
  | .take x k q => (fun _ => none, fun S κ => match κ with
      | .to a b => if kdOk k ∧ x = xN (S.length - rn.length) ∧ k = a then (AB rn q).2 (S ++ [a]) b else none
      | _ => none)
  | .thing => (fun _ => none, fun _ κ => match κ with
      | .one => some []
      | _ => none)
noncomputable def spA (rn : List Str) (p : Pg) (S : List Kd) := (AB rn p).1 S
noncomputable def spB (rn : List Str) (p : Pg) (S : List Kd) (κ : Kd) := (AB rn p).2 S κ
theorem spB_mark {rn : List Str} {p : Pg} {S : List Kd} {m : Str} : spB rn p S (.mark m) = finS S m (spA rn p S) := by
  cases p <;> rfl
abbrev Ent := Kd × Pg × List Kd
noncomputable def seqE (rn : List Str) : List Ent → Option (List Spt)
  | [] => some []
  | (k, p, S) :: r => (spB rn p S k).bind fun x => (seqE rn r).map fun y => x ++ y
theorem seqE_app (rn : List Str) : ∀ (a b : List Ent), seqE rn (a ++ b) = (seqE rn a).bind fun x => (seqE rn b).map fun y => x ++ y
  | [], b => by
    simp only [List.nil_append, seqE, Option.bind_some, List.nil_append]
    cases seqE rn b <;> rfl
  | (k, p, S) :: a, b => by
    simp only [List.cons_append, seqE, seqE_app rn a b]
    cases spB rn p S k with
    | none => rfl
    | some x =>
      simp only [Option.bind_some]
      cases seqE rn a with
      | none => rfl
      | some y =>
        simp only [Option.bind_some, Option.map_some]
        cases seqE rn b with
        | none => rfl
        | some z => simp
def ents (S : List Kd) (L : List (Kd × Pg)) : List Ent := L.map fun x => (x.1, x.2, S)
/-- along the spine -/
theorem spA_spine (rn : List Str) (S : List Kd) : ∀ p : Pg, spA rn p S = match p.spine with
    | (.name x, ms) => (nmAt rn x).bind fun i => (S[i]?).bind fun k => (goK k ms).bind fun r => (seqE rn (ents S r.2.2)).map fun L => (r.1, i, r.2.1, L)
    | _ => none
  | .name x => by
    show ((nmAt rn x).bind fun i => (S[i]?).map fun k => (k, i, 0, [])) = _
    simp only [Pg.spine]
    cases nmAt rn x with
    | none => rfl
    | some i =>
      simp only [Option.bind_some]
      cases S[i]? with
      | none => rfl
      | some k =>
        simp only [Option.bind_some, goK_nil]
        rfl
  | .pair q r => rfl
  | .take x k q => rfl
  | .thing => rfl
  | .first q => by
    show (match spA rn q S with
      | some (.both a _, i, w, L) => some (a, i, w, L)
      | _ => none) = _
    rw [spA_spine rn S q]
    simp only [Pg.spine]
    generalize q.spine = hs
    obtain ⟨h, ms⟩ := hs
    cases h with
    | name x =>
      simp only
      cases nmAt rn x with
      | none => rfl
      | some i =>
        simp only [Option.bind_some]
        cases S[i]? with
        | none => rfl
        | some k =>
          simp only [Option.bind_some]
          rw [goK_snoc]
          cases goK k ms with
          | none => rfl
          | some r =>
            obtain ⟨k', w, L⟩ := r
            simp only [Option.bind_some]
            cases k' with
            | both a b => 
              simp only [stepK, Option.bind_some]
              cases seqE rn (ents S L) <;> rfl
            | _ =>
              simp only [stepK, Option.bind_none]
              cases seqE rn (ents S L) <;> rfl
    | _ => rfl
  | .second q => by
    show (match spA rn q S with
      | some (.both a b, i, w, L) => some (b, i, w + a.nways, L)
      | _ => none) = _
    rw [spA_spine rn S q]
    simp only [Pg.spine]
    generalize q.spine = hs
    obtain ⟨h, ms⟩ := hs
    cases h with
    | name x =>
      simp only
      cases nmAt rn x with
      | none => rfl
      | some i =>
        simp only [Option.bind_some]
        cases S[i]? with
        | none => rfl
        | some k =>
          simp only [Option.bind_some]
          rw [goK_snoc]
          cases goK k ms with
          | none => rfl
          | some r =>
            obtain ⟨k', w, L⟩ := r
            simp only [Option.bind_some]
            cases k' with
            | both a b =>
              simp only [stepK, Option.bind_some]
              cases seqE rn (ents S L) <;> rfl
            | _ =>
              simp only [stepK, Option.bind_none]
              cases seqE rn (ents S L) <;> rfl
    | _ => rfl
  | .give q g => by
    show (match spA rn q S with
      | some (.to a b, i, w, L) => (spB rn g S a).map fun L' => (b, i, w, L ++ L')
      | _ => none) = _
    rw [spA_spine rn S q]
    simp only [Pg.spine]
    generalize q.spine = hs
    obtain ⟨h, ms⟩ := hs
    cases h with
    | name x =>
      simp only
      cases nmAt rn x with
      | none => rfl
      | some i =>
        simp only [Option.bind_some]
        cases S[i]? with
        | none => rfl
        | some k =>
          simp only [Option.bind_some]
          rw [goK_snoc]
          cases goK k ms with
          | none => rfl
          | some r =>
            obtain ⟨k', w, L⟩ := r
            simp only [Option.bind_some]
            cases k' with
            | to a b =>
              simp only [stepK, Option.bind_some]
              rw [show ents S (L ++ [(a, g)]) = ents S L ++ [(a, g, S)] from by simp [ents], seqE_app]
              simp only [seqE]
              cases seqE rn (ents S L) with
              | none => rfl
              | some y =>
                simp only [Option.map_some, Option.bind_some]
                cases spB rn g S a with
                | none => rfl
                | some z => simp
            | _ =>
              simp only [stepK, Option.bind_none]
              cases seqE rn (ents S L) <;> rfl
    | _ => rfl
mutual
/-- things of bounded parts -/
def okT : D → Prop
  | .str z => z.cps.size ≤ 1000 ∧ PyData.strOk z = true
  | .list ds => ds.length ≤ 3000 ∧ okTs ds
  | .tuple ds => ds.length ≤ 3000 ∧ okTs ds
  | .dict ds => ds = []
  | _ => True
def okTs : List D → Prop
  | [] => True
  | d :: ds => okT d ∧ okTs ds
end
def mkD : D → Bool
  | .str z => isMk z
  | _ => false
def pMkD : VSp := fun ss st Kp => ∃ d : D, okT d ∧ ss = [.val d] ∧ st = [] ∧ Kp (.val (.bool (mkD d))) []
def isS : D → Bool
  | .str _ => true
  | _ => false
theorem kit_is : ∀ {d : D}, okT d → kitB (tyD d) "str" = some (isS d)
  | .none, _ => show kitB "NoneType" "str" = some false by decide +kernel
  | .bool _, _ => show kitB "bool" "str" = some false by decide +kernel
  | .int _, _ => show kitB "int" "str" = some false by decide +kernel
  | .str _, _ => show kitB "str" "str" = some true by decide +kernel
  | .list _, _ => show kitB "list" "str" = some false by decide +kernel
  | .tuple _, _ => show kitB "tuple" "str" = some false by decide +kernel
  | .dict kvs, ok => by
    unfold okT at ok
    subst ok
    exact show kitB "dict" "str" = some false by decide +kernel
theorem r_mkD {ss cs Kp} (h : pMkD ss cs Kp) : t_ismark (dV cs.length Kp) ⟨startV 1 ss, cs.map some⟩ := by
  obtain ⟨d, ok, rfl, rfl, q⟩ := h
  have no : (∀ z, d ≠ .str z) → t_ismark (dV ([] : List Ob).length Kp) ⟨startV 1 [.val d], []⟩ := fun hn => by
    ktr_call "q2" ⟨t_ismark, t_ismark_3, t_ismark_1, vIsi, vChain⟩
    refine ⟨false, ?_, ?_⟩
    · rw [kit_is ok]
      cases d <;> first | rfl | exact absurd rfl (hn _)
    · rw [if_pos (by decide)]
      have e : mkD d = false := by cases d <;> first | rfl | exact absurd rfl (hn _)
      rw [e] at q
      exact q
  cases d with
  | str z =>
    unfold okT at ok
    exact r_ismark (cs := []) (.inl ⟨z, ok.1, rfl, rfl, q⟩)
  | _ => exact no (fun z e => by cases e)
theorem canS : ∀ {xs : List Str}, (∀ x ∈ xs, PyData.strOk x = true) → PyData.canLayAll0 (xs.map PyData.str) = true
  | [], _ => canAll_nil
  | x :: xs, h => by
    rw [List.map_cons, canAll_cons, can_str, h x List.mem_cons_self, canS fun y hy => h y (List.mem_cons_of_mem _ hy)]
    rfl
theorem depS : ∀ xs : List Str, PyData.depthAll (xs.map PyData.str) = 0
  | [] => depthAll_nil
  | x :: xs => by
    rw [List.map_cons, depthAll_cons, depth_str, depS xs]
    rfl
theorem shpS {xs : List Str} (h : ∀ x ∈ xs, PyData.strOk x = true) : Vl.shp (.list (xs.map .str)) = true := by
  unfold Vl.shp
  rw [can_lst, canS h, depth_lst, depS]
  rfl
theorem eqv_strs2 : ∀ xs ys : List Str, PyData.eqv (.list (xs.map .str)) (.list (ys.map .str)) = decide (xs = ys)
  | [], [] => by
    rw [eqv_lst]
    exact eqvAll_nil
  | [], y :: ys => by
    rw [eqv_lst]
    exact (eqvAll_nc _ _).trans (by simp)
  | x :: xs, [] => by
    rw [eqv_lst]
    exact (eqvAll_cn _ _).trans (by simp)
  | x :: xs, y :: ys => by
    rw [eqv_lst, List.map_cons, List.map_cons, eqvAll_cons, eqv_str, ← eqv_lst, eqv_strs2 xs ys]
    by_cases e : x = y
    · by_cases f : xs = ys <;> simp [e, f]
    · simp [e]
def okM (M : List Str) : Prop := ∀ m ∈ M, isMk m = true ∧ m.cps.size ≤ 1000 ∧ PyData.strOk m = true
def pMkM (M : List Str) : VSp := fun ss st Kp => ∃ z : Str, z ∈ M ∧ ss = [.val (.str z)] ∧ st = [] ∧ Kp (.val (.bool true)) []
theorem mkM_weak {M : List Str} (hM : okM M) {ss st Kp} (h : pMkM M ss st Kp) : pMkD ss st Kp := by
  obtain ⟨z, hz, rfl, rfl, q⟩ := h
  refine ⟨.str z, ?_, rfl, rfl, ?_⟩
  · unfold okT
    exact (hM z hz).2
  · show Kp (.val (.bool (isMk z))) []
    rw [(hM z hz).1]
    exact q
def pHfM (M : List Str) : VSp := fun ss st Kp => ∃ k : Kd, k.over M ∧ ss = [.val k.enc] ∧ st = [] ∧ Kp (.val (.bool true)) []
def pIsM (M : List Str) : VSp := fun ss st Kp => ∃ k : Kd, k.over M ∧ ss = [.val k.enc] ∧ st = [] ∧ k.nodes ≤ 10000 ∧ Kp (.val (.bool (isK k))) []
theorem inn_overM {M : List Str} {k x : Kd} (h : k.over M) (hx : x ∈ k.inn) : x.over M := by
  cases k <;> simp only [Kd.inn, List.mem_cons, List.not_mem_nil, or_false] at hx
  · rcases hx with rfl | rfl
    · exact h.1
    · exact h.2
  · rcases hx with rfl | rfl
    · exact h.1
    · exact h.2
theorem r_hfM {M : List Str} {ss cs Kp} (h : pHfM M ss cs Kp) : t_hasformv2 (pMkM M) (dV cs.length Kp) ⟨startV 2 ss, cs.map some⟩ := by
  have t1 : tabI [("mark", 2), ("one", 1), ("to", 3), ("both", 3)] "mark" = .int 2 := tabI_at (by decide +kernel)
  have t2 : tabI [("mark", 2), ("one", 1), ("to", 3), ("both", 3)] "one" = .int 1 := tabI_at (by decide +kernel)
  have t3 : tabI [("mark", 2), ("one", 1), ("to", 3), ("both", 3)] "to" = .int 3 := tabI_at (by decide +kernel)
  have t4 : tabI [("mark", 2), ("one", 1), ("to", 3), ("both", 3)] "both" = .int 3 := tabI_at (by decide +kernel)
  obtain ⟨k, ko, rfl, rfl, q⟩ := h
  cases k with
  | mark m =>
    ktr_call "q3" ⟨t_hasformv2_1, t_hasformv2_2, t_hasformv2_3, t_hasformv2_4, t_hasformv2_5, t_hasformv2_6, t_hasformv2, Kd.enc, vKGet, vIsi, t1, pMkM⟩
    refine ⟨true, kit_tt _, ?_⟩
    rw [if_neg (by decide), if_neg (by decide)]
    refine ⟨true, kit_ss _, ?_⟩
    rw [if_neg (by decide), if_neg (by decide)]
    exact ⟨m, ko, rfl, q⟩
  | one =>
    ktr_call "q3" ⟨t_hasformv2_1, t_hasformv2_2, t_hasformv2_3, t_hasformv2_4, t_hasformv2_5, t_hasformv2_6, t_hasformv2, Kd.enc, vKGet, vIsi, t2, pMkM⟩
    refine ⟨true, kit_tt _, ?_⟩
    rw [if_neg (by decide), if_neg (by decide)]
    refine ⟨true, kit_ss _, ?_⟩
    rw [if_neg (by decide), if_neg (by decide)]
    exact q
  | to a b =>
    ktr_call "q3" ⟨t_hasformv2_1, t_hasformv2_2, t_hasformv2_3, t_hasformv2_4, t_hasformv2_5, t_hasformv2_6, t_hasformv2, Kd.enc, vKGet, vIsi, t3, pMkM⟩
    refine ⟨true, kit_tt _, ?_⟩
    rw [if_neg (by decide), if_neg (by decide)]
    refine ⟨true, kit_ss _, ?_⟩
    rw [if_neg (by decide), if_neg (by decide)]
    exact q
  | both a b =>
    ktr_call "q3" ⟨t_hasformv2_1, t_hasformv2_2, t_hasformv2_3, t_hasformv2_4, t_hasformv2_5, t_hasformv2_6, t_hasformv2, Kd.enc, vKGet, vIsi, t4, pMkM⟩
    refine ⟨true, kit_tt _, ?_⟩
    rw [if_neg (by decide), if_neg (by decide)]
    refine ⟨true, kit_ss _, ?_⟩
    rw [if_neg (by decide), if_neg (by decide)]
    exact q
theorem r_iskindM {M : List Str} {ss cs Kp} (h : pIsM M ss cs Kp) : t_iskind (pHfM M) pKindsIn (dV cs.length Kp) ⟨startV 7 ss, cs.map some⟩ := by
  obtain ⟨k, ko, rfl, rfl, kn, q⟩ := h
  ktr_call "q4" ⟨t_iskind, t_iskind_14, t_iskind_13, t_iskind_12⟩
  refine while_invW (fun m e => ∃ (ts : List (Kd × Nat)) (l : Nat) (x y z u : Option Sl), e = ⟨[some (.val k.enc), some (.val (.int (l : Nat))), some (.obj 0), x, y, z, u], [some (.l (ts.map encKp))]⟩ ∧ l ≤ 24 ∧ l + lvK ts = k.leaves ∧ (∃ d, d ≤ 12 ∧ max d (dpK ts) = k.deep) ∧ ndK ts ≤ k.nodes ∧ m = ndK ts ∧ ∀ t ∈ ts, t.1.over M) ?_ (m := ndK [(k, 0)]) ⟨[(k, 0)], 0, none, none, none, none, rfl, by omega, by simp [lvK], ⟨0, by omega, by simp [dpK]⟩, by simp [ndK], rfl, by simpa using ko⟩
  rintro m e Nx ⟨ts, l, x, y, z, u, rfl, l24, ls, ⟨d, d12, ds⟩, ns, rfl, ov⟩ hk
  rcases List.eq_nil_or_concat ts with rfl | ⟨ts0, ⟨t, n⟩, rfl⟩
  · ktr_call "q4" ⟨t_iskind_11, List.isEmpty_nil⟩
    have e : isK k = true := by
      simp only [lvK, dpK] at ls ds
      unfold isK
      rw [decide_eq_true (by omega), decide_eq_true (by omega)]
      rfl
    rw [e] at q
    exact q
  · rw [List.concat_eq_append] at *
    have ne : ((ts0 ++ [(t, n)]).map encKp).isEmpty = false := by simp
    have gl : ((ts0 ++ [(t, n)]).map encKp).getLast? = some (encKp (t, n)) := by simp
    have dl : ((ts0 ++ [(t, n)]).map encKp).dropLast = ts0.map encKp := by simp
    obtain ⟨i1, i2, i3, i4⟩ := innK_at t n
    have tov : t.over M := ov (t, n) (by simp)
    rw [lvK_app] at ls
    rw [dpK_app] at ds
    rw [ndK_app] at ns
    simp only [lvK, dpK, ndK] at ls ds ns
    ktr_call "q4" ⟨ne, gl, dl, t_iskind_10⟩
    ktr_call "q4" ⟨encKp, t_iskind_9⟩
    split
    · rename_i hn
      ktr_call "q4" ⟨t_iskind_1⟩
      have e : isK k = false := by
        unfold isK
        rw [show decide (k.deep ≤ 12) = false from decide_eq_false (by omega), Bool.and_false]
      rw [e] at q
      exact q
    · rename_i hn
      refine ⟨t, tov, rfl, rfl, ?_⟩
      ktr_call "q4" ⟨truth⟩
      rw [vNext_mk]
      ktr_call "q4" ⟨t_iskind_8, t_iskind_7, pKindsIn⟩
      refine ⟨t, rfl, ?_⟩
      have last : ∀ (l' : Nat) (T : VTS), l' + lvK (innK t n) + lvK ts0 = k.leaves → l' ≤ 25 → t_iskind_6 (pHfM M) pKindsIn { nx := Nx, rt := (dV 0 Kp).rt, bk := t_iskind_11 (pHfM M) pKindsIn (dV 0 Kp), ct := Nx, ex := (dV 0 Kp).ex } ⟨[some (.val k.enc), some (.val (.int (l' : Nat))), some (.obj 0), some (.val t.enc), some (.val (.int (n : Nat))), some (.val (.list (t.inn.map Kd.enc))), u], [some (.l (ts0.map encKp))]⟩ := fun l' T hl' hb => by
        ktr_call "q4" ⟨t_iskind_6⟩
        split
        · rename_i h24
          ktr_call "q4" ⟨t_iskind_3⟩
          have e : isK k = false := by
            unfold isK
            rw [show decide (k.leaves ≤ 24) = false from decide_eq_false (by omega), Bool.false_and]
          rw [e] at q
          exact q
        · rename_i h24
          rw [vNext_mk]
          ktr_call "q4" ⟨t_iskind_5⟩
          have l0 := ndK_len ts0
          have il : (innK t n).length = t.inn.length := List.length_map ..
          refine fl_invW (chk := none) Kd.enc t.inn (fun ys e => ∃ z, e = ⟨[some (.val k.enc), some (.val (.int (l' : Nat))), some (.obj 0), some (.val t.enc), some (.val (.int (n : Nat))), some (.val (.list (t.inn.map Kd.enc))), z], [some (.l ((ts0 ++ ys.map fun q => (q, n + 1)).map encKp))]⟩) (fun _ _ _ => trivial) ?_ ?_ ⟨u, by rw [List.map_nil, List.append_nil]⟩
          · rintro ys v zs e Nx2 hys ⟨z, rfl⟩ hk2
            have hl : ys.length < t.inn.length := by rw [hys]; simp
            ktr_call "q4" ⟨t_iskind_4⟩
            have hh : ((ts0 ++ (ys ++ [v]).map fun q => (q, n + 1)).map encKp) = ((ts0 ++ ys.map fun q => (q, n + 1)).map encKp) ++ [.tuple [v.enc, .int ((n : Int) + 1)]] := by
              simp [encKp]
            refine ⟨bigl (by simp only [List.length_map, List.length_append]; omega), hk2 _ 1 [] (Nat.le_refl _) ⟨some (.val v.enc), ?_⟩⟩
            rw [hh]
            rfl
          · rintro e ⟨z, rfl⟩
            refine hk (ndK (ts0 ++ innK t n)) _ 1 [] (by rw [ndK_app, ndK_app]; simp only [ndK]; omega) (Nat.le_refl _) ⟨ts0 ++ innK t n, l', _, _, _, _, rfl, by omega, by rw [lvK_app]; omega, ⟨max d n, by omega, ?_⟩, by rw [ndK_app]; omega, rfl, fun x hx => ?_⟩
            · rw [dpK_app]
              omega
            · rcases List.mem_append.mp hx with hx | hx
              · exact ov x (List.mem_append_left _ hx)
              · obtain ⟨y, hy, rfl⟩ := List.mem_map.mp hx
                exact inn_overM tov hy
      have hi : (t.inn.map Kd.enc).isEmpty = t.inn.isEmpty := by cases t.inn <;> rfl
      simp only [hi]
      cases hi2 : t.inn.isEmpty with
      | true =>
        rw [hi2, if_pos rfl] at i3
        ktr_call "q3" ⟨t_iskind_2⟩
        exact last (l + 1) vNext (by omega) (by omega)
      | false =>
        rw [hi2, if_neg (by decide)] at i3
        ktr_call "q3" "0"
        exact last l vNext (by omega) (by omega)
def wayL : Kd → List (List Mv × Str)
  | .mark m => [([], m)]
  | .one => []
  | .to a b => (wayL b).map fun x => (.kd a :: x.1, x.2)
  | .both a b => (wayL a).map (fun x => (.one :: x.1, x.2)) ++ (wayL b).map fun x => (.two :: x.1, x.2)
theorem wayL_len : ∀ k : Kd, (wayL k).length = k.nways
  | .mark m => rfl
  | .one => rfl
  | .to a b => by rw [wayL, List.length_map, wayL_len b]; rfl
  | .both a b => by rw [wayL, List.length_append, List.length_map, List.length_map, wayL_len a, wayL_len b]; rfl
theorem nways_le : ∀ k : Kd, k.nways ≤ k.leaves
  | .mark m => Nat.le_refl _
  | .one => Nat.zero_le _
  | .to a b => by have := nways_le b; simp only [Kd.nways, Kd.leaves]; omega
  | .both a b => by have := nways_le a; have := nways_le b; simp only [Kd.nways, Kd.leaves]; omega
def encWy (x : List Mv × Str) : D := .tuple [encMs x.1, .str x.2]
abbrev WyI := Kd × List Mv
def encWi (x : WyI) : D := .tuple [x.1.enc, encMs x.2]
def wayI (x : WyI) : List (List Mv × Str) := (wayL x.1).map fun y => (x.2 ++ y.1, y.2)
def waysI : List WyI → List (List Mv × Str)
  | [] => []
  | x :: r => wayI x ++ waysI r
def ndI : List WyI → Nat
  | [] => 0
  | x :: r => x.1.nodes + ndI r
theorem ndI_app : ∀ a b, ndI (a ++ b) = ndI a + ndI b
  | [], b => by simp [ndI]
  | x :: a, b => by
    rw [List.cons_append, ndI, ndI, ndI_app a b]
    omega
theorem ndI_len : ∀ a, a.length ≤ ndI a
  | [] => Nat.le_refl _
  | x :: a => by
    have : 1 ≤ x.1.nodes := by cases x.1 <;> simp only [Kd.nodes] <;> omega
    have := ndI_len a
    simp only [ndI, List.length_cons]
    omega
def pWayL : VSp := fun ss st Kp => ∃ k : Kd, k.nodes ≤ 100000 ∧ ss = [.val k.enc] ∧ st = [] ∧ Kp (.obj 0) [.l ((wayL k).map encWy)]
theorem r_wayL {ss cs Kp} (h : pWayL ss cs Kp) : t_waysof (dV cs.length Kp) ⟨startV 5 ss, cs.map some⟩ := by
  obtain ⟨k, kn, rfl, rfl, q⟩ := h
  ktr_call "q4" ⟨t_waysof, t_waysof_12, t_waysof_11, t_waysof_10⟩
  refine while_invW (fun m e => ∃ (ts : List WyI) (ws : List (List Mv × Str)) (x y : Option Sl), e = ⟨[some (.val k.enc), some (.obj 0), some (.obj 1), x, y], [some (.l (ws.map encWy)), some (.l (ts.map encWi))]⟩ ∧ m = ndI ts ∧ ws.length + ndI ts ≤ k.nodes ∧ (∀ t ∈ ts, t.2.length + t.1.nodes ≤ k.nodes) ∧ ws ++ waysI ts.reverse = wayL k) ?_ (m := ndI [(k, [])]) ⟨[(k, [])], [], none, none, rfl, rfl, by simp [ndI], by simp, by simp [waysI, wayI]⟩
  rintro m e Nx ⟨ts, ws, x, y, rfl, rfl, hsz, hg, hr⟩ hk
  rcases List.eq_nil_or_concat ts with rfl | ⟨ts0, ⟨t, ms⟩, rfl⟩
  · ktr_call "q4" ⟨t_waysof_9, List.isEmpty_nil, List.map_nil⟩
    simp only [List.reverse_nil, waysI, List.append_nil] at hr
    rw [hr]
    exact q
  · rw [List.concat_eq_append] at *
    have ne : ((ts0 ++ [(t, ms)]).map encWi).isEmpty = false := by simp
    have gl : ((ts0 ++ [(t, ms)]).map encWi).getLast? = some (encWi (t, ms)) := by simp
    have dl : ((ts0 ++ [(t, ms)]).map encWi).dropLast = ts0.map encWi := by simp
    rw [ndI_app] at hsz
    simp only [ndI] at hsz
    rw [List.reverse_append, List.reverse_singleton, List.singleton_append, waysI] at hr
    have g0 := hg (t, ms) (by simp)
    simp only at g0
    have g5 : ∀ x ∈ ts0, x.2.length + x.1.nodes ≤ k.nodes := fun x hx => hg x (List.mem_append_left _ hx)
    have l0 := ndI_len ts0
    ktr_call "q4" ⟨ne, gl, dl, t_waysof_8⟩
    ktr_call "q4" ⟨encWi, encMs, t_waysof_7, t_waysof_6, t_waysof_5⟩
    cases t with
    | mark m =>
      simp only [Kd.enc, t_waysof_1, Kd.nodes, flatD, List.any_cons, List.any_nil, eqv_str, eqv_int, eqv_ti, eqv_it, eqv_st, eqv_ts, cut1, Bool.or_false, Bool.or_true, Bool.and_self, Bool.and_true, Bool.and_false, Bool.false_or, Bool.true_or, and_self, ofs_inj, ofs_app, ofs_len, String.reduceEq, String.reduceNe, String.reduceAppend, decide_true, decide_false, Bool.not_true, Bool.not_false, sz0, sz1, sz2, sz3, sz4, sz5, sz6, sz7, sz8, sz9, sz10, sz11, sz12, sz13, sz14, sz15, sz16, sz17, sz18, sz19, sz20, sz21, sz22, sz23, sz24, sz25, cpow1018, true_and, and_true, Nat.reduceAdd, Nat.reduceLT, Nat.reduceSub, Int.reduceNe, Int.reduceEq, Int.reduceLT, Int.reduceLE, Int.reduceToNat, ne_eq, not_false_eq_true, List.length_map, Nat.lt_irrefl, dV_nx, dV_rt, at0, at1, at2, at3, ix20, ix21, vSeq, vIfS, vTest, vTruth, truth, v2, v1, vN, vCons, vNil, vStar, vVar, vC, xIx, Vl.opI0, Vl.opI, pk, vSet, vAug, vAsg, xgSub, vRet, vRetN, vDrop, vBreak, vCont, asD, asDs, opMod, opDiv, opMul2, Vl.opAdd, Vl.opAddO, opSub, opPow, opLt, Vl.opLe, opGt, Vl.opGe, xEq, okEq_str, okEq_int, xIn, okIn, inD, xIsN, isNone_n, isNone_t, isNone_l, isNone_i, isNone_s, isMo, mob, pkm, gModI, gDivI, gSubI, gMulI, gPowI, gGt, gLt, gLe, gGe, vNotT, vAndT, vOrT, vAndV, vOrV, opNot, opNotG, vIfE, opTup, opLst, opLstO, Vl.opLen, Vl.opInt, opList, opListO, opTuple, opII, gMax, gMin, vM, vM0, isT, xPop, Vl.opAppend, opExtend, opJoin, vgName, vgTup, vgCons, vgNil, kOpt_some, kOpn_some, kOps_some, Vl.opSum, Vl.opInsert, Vl.opIndex, opDivmod, vSl, vPart, vNoPart, opSl, opSlO, opRev, opCallK, ownD, ownO, objs, renum, uniq, getS, putS, vCall0, vFor, vForW, En.wk, vSeqI, vTupI, vRng1, vRng2, vRngD, vFn, vCallL, vOdd, vWays, vEnum, vZip, chkOf, vLcK, vYes, finD, finO, En.wipe, wipeE, En.trim, trimS, dropNone, clr_n, clr_v, clr_k, clr_o, wth, Vl.ret, takeS, startV,  List.map_cons, List.map_nil, List.length_cons, List.length_nil, List.cons_append, List.nil_append, List.replicate, List.getElem?_cons_succ, List.getElem?_cons_zero, List.getElem?_nil, List.set_cons_succ, List.set_cons_zero, List.set_nil, List.all_nil, List.all_cons, Bool.true_and, Option.map_some, Option.map_none, if_true, if_false, decide_eq_true_eq, Bool.false_eq_true, List.take_succ_cons, List.take_zero, List.take_nil, List.drop_succ_cons, List.drop_zero, List.drop_nil, reduceIte, reduceCtorEq] at hsz g0 ⊢
      refine ⟨bigl (by omega), hk (ndI ts0) _ 2 [] (by rw [ndI_app]; simp only [ndI, Kd.nodes]; omega) (Nat.le_refl _) ⟨ts0, ws ++ [(ms, m)], some (.val (Kd.mark m).enc), some (.val (encMs ms)), ?_, rfl, by rw [List.length_append, List.length_singleton]; omega, g5, ?_⟩⟩
      · rw [List.map_append]
        rfl
      · rw [List.append_assoc, ← hr]
        simp [wayI, wayL]
    | one =>
      simp only [Kd.enc, Kd.nodes, flatD, List.any_cons, List.any_nil, eqv_str, eqv_int, eqv_ti, eqv_it, eqv_st, eqv_ts, cut1, Bool.or_false, Bool.or_true, Bool.and_self, Bool.and_true, Bool.and_false, Bool.false_or, Bool.true_or, and_self, ofs_inj, ofs_app, ofs_len, String.reduceEq, String.reduceNe, String.reduceAppend, decide_true, decide_false, Bool.not_true, Bool.not_false, sz0, sz1, sz2, sz3, sz4, sz5, sz6, sz7, sz8, sz9, sz10, sz11, sz12, sz13, sz14, sz15, sz16, sz17, sz18, sz19, sz20, sz21, sz22, sz23, sz24, sz25, cpow1018, true_and, and_true, Nat.reduceAdd, Nat.reduceLT, Nat.reduceSub, Int.reduceNe, Int.reduceEq, Int.reduceLT, Int.reduceLE, Int.reduceToNat, ne_eq, not_false_eq_true, List.length_map, Nat.lt_irrefl, dV_nx, dV_rt, at0, at1, at2, at3, ix20, ix21, vSeq, vIfS, vTest, vTruth, truth, v2, v1, vN, vCons, vNil, vStar, vVar, vC, xIx, Vl.opI0, Vl.opI, pk, vSet, vAug, vAsg, xgSub, vRet, vRetN, vDrop, vBreak, vCont, asD, asDs, opMod, opDiv, opMul2, Vl.opAdd, Vl.opAddO, opSub, opPow, opLt, Vl.opLe, opGt, Vl.opGe, xEq, okEq_str, okEq_int, xIn, okIn, inD, xIsN, isNone_n, isNone_t, isNone_l, isNone_i, isNone_s, isMo, mob, pkm, gModI, gDivI, gSubI, gMulI, gPowI, gGt, gLt, gLe, gGe, vNotT, vAndT, vOrT, vAndV, vOrV, opNot, opNotG, vIfE, opTup, opLst, opLstO, Vl.opLen, Vl.opInt, opList, opListO, opTuple, opII, gMax, gMin, vM, vM0, isT, xPop, Vl.opAppend, opExtend, opJoin, vgName, vgTup, vgCons, vgNil, kOpt_some, kOpn_some, kOps_some, Vl.opSum, Vl.opInsert, Vl.opIndex, opDivmod, vSl, vPart, vNoPart, opSl, opSlO, opRev, opCallK, ownD, ownO, objs, renum, uniq, getS, putS, vCall0, vFor, vForW, En.wk, vSeqI, vTupI, vRng1, vRng2, vRngD, vFn, vCallL, vOdd, vWays, vEnum, vZip, chkOf, vLcK, vYes, finD, finO, En.wipe, wipeE, En.trim, trimS, dropNone, clr_n, clr_v, clr_k, clr_o, wth, Vl.ret, takeS, startV,  List.map_cons, List.map_nil, List.length_cons, List.length_nil, List.cons_append, List.nil_append, List.replicate, List.getElem?_cons_succ, List.getElem?_cons_zero, List.getElem?_nil, List.set_cons_succ, List.set_cons_zero, List.set_nil, List.all_nil, List.all_cons, Bool.true_and, Option.map_some, Option.map_none, if_true, if_false, decide_eq_true_eq, Bool.false_eq_true, List.take_succ_cons, List.take_zero, List.take_nil, List.drop_succ_cons, List.drop_zero, List.drop_nil, reduceIte, reduceCtorEq] at hsz g0 ⊢
      rw [vNext_mk]
      refine hk (ndI ts0) _ 2 [] (by rw [ndI_app]; simp only [ndI, Kd.nodes]; omega) (Nat.le_refl _) ⟨ts0, ws, _, _, rfl, rfl, by omega, g5, ?_⟩
      rw [← hr]
      simp [wayI, wayL]
    | to a b =>
      simp only [Kd.enc, t_waysof_2, Kd.nodes, flatD, List.any_cons, List.any_nil, eqv_str, eqv_int, eqv_ti, eqv_it, eqv_st, eqv_ts, cut1, Bool.or_false, Bool.or_true, Bool.and_self, Bool.and_true, Bool.and_false, Bool.false_or, Bool.true_or, and_self, ofs_inj, ofs_app, ofs_len, String.reduceEq, String.reduceNe, String.reduceAppend, decide_true, decide_false, Bool.not_true, Bool.not_false, sz0, sz1, sz2, sz3, sz4, sz5, sz6, sz7, sz8, sz9, sz10, sz11, sz12, sz13, sz14, sz15, sz16, sz17, sz18, sz19, sz20, sz21, sz22, sz23, sz24, sz25, cpow1018, true_and, and_true, Nat.reduceAdd, Nat.reduceLT, Nat.reduceSub, Int.reduceNe, Int.reduceEq, Int.reduceLT, Int.reduceLE, Int.reduceToNat, ne_eq, not_false_eq_true, List.length_map, Nat.lt_irrefl, dV_nx, dV_rt, at0, at1, at2, at3, ix20, ix21, vSeq, vIfS, vTest, vTruth, truth, v2, v1, vN, vCons, vNil, vStar, vVar, vC, xIx, Vl.opI0, Vl.opI, pk, vSet, vAug, vAsg, xgSub, vRet, vRetN, vDrop, vBreak, vCont, asD, asDs, opMod, opDiv, opMul2, Vl.opAdd, Vl.opAddO, opSub, opPow, opLt, Vl.opLe, opGt, Vl.opGe, xEq, okEq_str, okEq_int, xIn, okIn, inD, xIsN, isNone_n, isNone_t, isNone_l, isNone_i, isNone_s, isMo, mob, pkm, gModI, gDivI, gSubI, gMulI, gPowI, gGt, gLt, gLe, gGe, vNotT, vAndT, vOrT, vAndV, vOrV, opNot, opNotG, vIfE, opTup, opLst, opLstO, Vl.opLen, Vl.opInt, opList, opListO, opTuple, opII, gMax, gMin, vM, vM0, isT, xPop, Vl.opAppend, opExtend, opJoin, vgName, vgTup, vgCons, vgNil, kOpt_some, kOpn_some, kOps_some, Vl.opSum, Vl.opInsert, Vl.opIndex, opDivmod, vSl, vPart, vNoPart, opSl, opSlO, opRev, opCallK, ownD, ownO, objs, renum, uniq, getS, putS, vCall0, vFor, vForW, En.wk, vSeqI, vTupI, vRng1, vRng2, vRngD, vFn, vCallL, vOdd, vWays, vEnum, vZip, chkOf, vLcK, vYes, finD, finO, En.wipe, wipeE, En.trim, trimS, dropNone, clr_n, clr_v, clr_k, clr_o, wth, Vl.ret, takeS, startV,  List.map_cons, List.map_nil, List.length_cons, List.length_nil, List.cons_append, List.nil_append, List.replicate, List.getElem?_cons_succ, List.getElem?_cons_zero, List.getElem?_nil, List.set_cons_succ, List.set_cons_zero, List.set_nil, List.all_nil, List.all_cons, Bool.true_and, Option.map_some, Option.map_none, if_true, if_false, decide_eq_true_eq, Bool.false_eq_true, List.take_succ_cons, List.take_zero, List.take_nil, List.drop_succ_cons, List.drop_zero, List.drop_nil, reduceIte, reduceCtorEq] at hsz g0 ⊢
      have hh : (ts0 ++ [(b, ms ++ [Mv.kd a])]).map encWi = ts0.map encWi ++ [.tuple [b.enc, .list (ms.map Mv.enc ++ [a.enc])]] := by simp [encWi, encMs, Mv.enc]
      refine ⟨big (by omega), bigl (by omega), hk (ndI (ts0 ++ [(b, ms ++ [Mv.kd a])])) _ 2 [] (by rw [ndI_app, ndI_app]; simp only [ndI, Kd.nodes]; omega) (Nat.le_refl _) ⟨ts0 ++ [(b, ms ++ [Mv.kd a])], ws, some (.val (Kd.to a b).enc), some (.val (encMs ms)), ?_, rfl, by rw [ndI_app]; simp only [ndI]; omega, fun x hx => ?_, ?_⟩⟩
      · rw [hh]
        rfl
      · rcases List.mem_append.mp hx with hx | hx
        · exact g5 x hx
        · rw [List.mem_singleton.mp hx]
          simp only [List.length_append, List.length_singleton]
          omega
      · rw [← hr, List.reverse_append, List.reverse_singleton, List.singleton_append, waysI]
        congr 2
        simp [wayI, wayL]
    | both a b =>
      simp only [Kd.enc, t_waysof_4, t_waysof_3, Kd.nodes, flatD, List.any_cons, List.any_nil, eqv_str, eqv_int, eqv_ti, eqv_it, eqv_st, eqv_ts, cut1, Bool.or_false, Bool.or_true, Bool.and_self, Bool.and_true, Bool.and_false, Bool.false_or, Bool.true_or, and_self, ofs_inj, ofs_app, ofs_len, String.reduceEq, String.reduceNe, String.reduceAppend, decide_true, decide_false, Bool.not_true, Bool.not_false, sz0, sz1, sz2, sz3, sz4, sz5, sz6, sz7, sz8, sz9, sz10, sz11, sz12, sz13, sz14, sz15, sz16, sz17, sz18, sz19, sz20, sz21, sz22, sz23, sz24, sz25, cpow1018, true_and, and_true, Nat.reduceAdd, Nat.reduceLT, Nat.reduceSub, Int.reduceNe, Int.reduceEq, Int.reduceLT, Int.reduceLE, Int.reduceToNat, ne_eq, not_false_eq_true, List.length_map, Nat.lt_irrefl, dV_nx, dV_rt, at0, at1, at2, at3, ix20, ix21, vSeq, vIfS, vTest, vTruth, truth, v2, v1, vN, vCons, vNil, vStar, vVar, vC, xIx, Vl.opI0, Vl.opI, pk, vSet, vAug, vAsg, xgSub, vRet, vRetN, vDrop, vBreak, vCont, asD, asDs, opMod, opDiv, opMul2, Vl.opAdd, Vl.opAddO, opSub, opPow, opLt, Vl.opLe, opGt, Vl.opGe, xEq, okEq_str, okEq_int, xIn, okIn, inD, xIsN, isNone_n, isNone_t, isNone_l, isNone_i, isNone_s, isMo, mob, pkm, gModI, gDivI, gSubI, gMulI, gPowI, gGt, gLt, gLe, gGe, vNotT, vAndT, vOrT, vAndV, vOrV, opNot, opNotG, vIfE, opTup, opLst, opLstO, Vl.opLen, Vl.opInt, opList, opListO, opTuple, opII, gMax, gMin, vM, vM0, isT, xPop, Vl.opAppend, opExtend, opJoin, vgName, vgTup, vgCons, vgNil, kOpt_some, kOpn_some, kOps_some, Vl.opSum, Vl.opInsert, Vl.opIndex, opDivmod, vSl, vPart, vNoPart, opSl, opSlO, opRev, opCallK, ownD, ownO, objs, renum, uniq, getS, putS, vCall0, vFor, vForW, En.wk, vSeqI, vTupI, vRng1, vRng2, vRngD, vFn, vCallL, vOdd, vWays, vEnum, vZip, chkOf, vLcK, vYes, finD, finO, En.wipe, wipeE, En.trim, trimS, dropNone, clr_n, clr_v, clr_k, clr_o, wth, Vl.ret, takeS, startV,  List.map_cons, List.map_nil, List.length_cons, List.length_nil, List.cons_append, List.nil_append, List.replicate, List.getElem?_cons_succ, List.getElem?_cons_zero, List.getElem?_nil, List.set_cons_succ, List.set_cons_zero, List.set_nil, List.all_nil, List.all_cons, Bool.true_and, Option.map_some, Option.map_none, if_true, if_false, decide_eq_true_eq, Bool.false_eq_true, List.take_succ_cons, List.take_zero, List.take_nil, List.drop_succ_cons, List.drop_zero, List.drop_nil, reduceIte, reduceCtorEq] at hsz g0 ⊢
      have hh : (ts0 ++ [(b, ms ++ [Mv.two]), (a, ms ++ [Mv.one])]).map encWi = ts0.map encWi ++ [.tuple [b.enc, .list (ms.map Mv.enc ++ [.int 2])]] ++ [.tuple [a.enc, .list (ms.map Mv.enc ++ [.int 1])]] := by simp [encWi, encMs, Mv.enc]
      refine ⟨big (by omega), bigl (by omega), big (by omega), bigl (by first | omega | (simp only [List.length_append, List.length_singleton, List.length_map]; omega)), hk (ndI (ts0 ++ [(b, ms ++ [Mv.two]), (a, ms ++ [Mv.one])])) _ 2 [] (by rw [ndI_app, ndI_app]; simp only [ndI, Kd.nodes]; omega) (Nat.le_refl _) ⟨ts0 ++ [(b, ms ++ [Mv.two]), (a, ms ++ [Mv.one])], ws, some (.val (Kd.both a b).enc), some (.val (encMs ms)), ?_, rfl, by rw [ndI_app]; simp only [ndI]; omega, fun x hx => ?_, ?_⟩⟩
      · rw [hh]
        rfl
      · rcases List.mem_append.mp hx with hx | hx
        · exact g5 x hx
        · rcases List.mem_cons.mp hx with rfl | hx
          · simp only [List.length_append, List.length_singleton]
            omega
          · rw [List.mem_singleton.mp hx]
            simp only [List.length_append, List.length_singleton]
            omega
      · rw [← hr]
        simp [wayI, wayL, waysI, Function.comp_def]
def Pg.word : Pg → Str
  | .name _ => "name"
  | .take _ _ _ => "take"
  | .give _ _ => "give"
  | .pair _ _ => "pair"
  | .first _ => "first"
  | .second _ => "second"
  | .thing => "thing"
abbrev wds : List Str := ["name", "take", "give", "pair", "first", "second", "thing"]
abbrev lenT : List (Str × D) := [("name", .int 2), ("take", .int 4), ("give", .int 3), ("pair", .int 3), ("first", .int 2), ("second", .int 2), ("thing", .int 1)]
/-- no program: what else stands where one should -/
inductive junkP : D → Prop
  | non : junkP .none
  | int (i : Int) : junkP (.int i)
  | tup : junkP (.tuple [.str "name"])
  | lst (ds : List D) : junkP (.list ds)
def pHw : VSp := fun ss st Kp => (∃ (p : Pg) (w : Str), w ∈ wds ∧ ss = [.val p.enc, .val (.str w)] ∧ st = [] ∧ Kp (.val (.bool (decide (p.word = w)))) []) ∨ ∃ (d : D) (w : Str), junkP d ∧ w ∈ wds ∧ ss = [.val d, .val (.str w)] ∧ st = [] ∧ Kp (.val (.bool false)) []
theorem r_hw {ss cs Kp} (h : pHw ss cs Kp) : t_hasword (dV cs.length Kp) ⟨startV 2 ss, cs.map some⟩ := by
  have key : ∀ w ∈ wds, ∃ n : Int, lenT.lookup w = some (.int n) ∧ ((w = "name" → n = 2) ∧ (w = "take" → n = 4) ∧ (w = "give" → n = 3) ∧ (w = "pair" → n = 3) ∧ (w = "first" → n = 2) ∧ (w = "second" → n = 2) ∧ (w = "thing" → n = 1)) := by
    intro w hw
    simp only [wds, List.mem_cons, List.not_mem_nil, or_false] at hw
    rcases hw with rfl | rfl | rfl | rfl | rfl | rfl | rfl
    · exact ⟨2, rfl, by decide +kernel⟩
    · exact ⟨4, rfl, by decide +kernel⟩
    · exact ⟨3, rfl, by decide +kernel⟩
    · exact ⟨3, rfl, by decide +kernel⟩
    · exact ⟨2, rfl, by decide +kernel⟩
    · exact ⟨2, rfl, by decide +kernel⟩
    · exact ⟨1, rfl, by decide +kernel⟩
  have lk : ∀ p : Pg, ∀ w ∈ wds, ∃ (n : Int) (ds : List D), lenT.lookup w = some (.int n) ∧ p.enc = .tuple (.str p.word :: ds) ∧ (p.word = w → n = ((ds.length + 1 : Nat) : Int)) := by
    intro p w hw
    obtain ⟨n, h0, h1, h2, h3, h4, h5, h6, h7⟩ := key w hw
    cases p <;> refine ⟨n, _, h0, rfl, fun e => ?_⟩ <;> simp only [Pg.word] at e <;> first | exact h1 e.symm | exact h2 e.symm | exact h3 e.symm | exact h4 e.symm | exact h5 e.symm | exact h6 e.symm | exact h7 e.symm
  rcases h with ⟨p, w, hw, rfl, rfl, q⟩ | ⟨d, w, hj, hw, rfl, rfl, q⟩
  · obtain ⟨n, ds, h0, he, h1⟩ := lk p w hw
    rw [he]
    ktr_call "q4" ⟨t_hasword, t_hasword_3, vIsi, vKIx⟩
    refine ⟨true, kit_tt _, ?_⟩
    rw [if_neg (by decide), h0, kOpt_some]
    refine ⟨trivial, ?_⟩
    rw [eqv_int]
    by_cases hn : ((ds.length + 1 : Nat) : Int) = n
    · rw [if_neg (by simp [hn]), vNext_mk]
      ktr_call "q4" ⟨t_hasword_2, vIsi⟩
      refine ⟨true, kit_ss _, ?_⟩
      rw [if_pos rfl]
      exact q
    · rw [if_pos (by rw [decide_eq_false hn]; rfl)]
      ktr_call "q4" ⟨t_hasword_1⟩
      rw [decide_eq_false fun e => hn (h1 e).symm] at q
      exact q
  · obtain ⟨n, h0, _⟩ := key w hw
    cases hj with
    | tup =>
      ktr_call "q4" ⟨t_hasword, t_hasword_3, vIsi, vKIx⟩
      refine ⟨true, kit_tt _, ?_⟩
      rw [if_neg (by decide), h0, kOpt_some]
      refine ⟨trivial, ?_⟩
      by_cases hn : w = "name"
      · rw [hn] at h0
        have e : n = 2 := by
          have : lenT.lookup (Str.ofString "name") = some (PyData.int 2) := rfl
          rw [this] at h0
          injection h0 with h0
          injection h0 with h0
          exact h0.symm
        rw [e, if_pos (by decide +kernel)]
        ktr_call "q4" ⟨t_hasword_1⟩
        exact q
      · by_cases h3 : n = 1
        · rw [h3, if_neg (by decide +kernel), vNext_mk]
          ktr_call "q4" ⟨t_hasword_2, vIsi⟩
          refine ⟨true, kit_ss _, ?_⟩
          rw [if_pos rfl, decide_eq_false fun e => hn e.symm]
          exact q
        · rw [eqv_int, if_pos (by rw [decide_eq_false (fun e => h3 e.symm)]; rfl)]
          ktr_call "q4" ⟨t_hasword_1⟩
          exact q
    | _ =>
      ktr_call "q4" ⟨t_hasword, t_hasword_3, t_hasword_1, vIsi, vKIx⟩
      refine ⟨false, by first | (show kitB "NoneType" "tuple" = some false; decide +kernel) | (show kitB "int" "tuple" = some false; decide +kernel) | (show kitB "list" "tuple" = some false; decide +kernel), ?_⟩
      rw [if_pos (by decide)]
      exact q
theorem nways_nodes : ∀ k : Kd, k.nways ≤ k.nodes
  | .mark m => Nat.le_refl _
  | .one => Nat.zero_le _
  | .to a b => by have := nways_nodes b; simp only [Kd.nways, Kd.nodes]; omega
  | .both a b => by have := nways_nodes a; have := nways_nodes b; simp only [Kd.nways, Kd.nodes]; omega
/-- what stands as a move: the part itself -/
inductive MoP : Mo → Pg → Prop
  | fst (p : Pg) : MoP .fst (.first p)
  | snd (p : Pg) : MoP .snd (.second p)
  | giv (p q : Pg) : MoP (.giv q) (.give p q)
inductive MosP : List Mo → List Pg → Prop
  | nil : MosP [] []
  | cons {m : Mo} {p : Pg} {ms : List Mo} {ps : List Pg} : MoP m p → MosP ms ps → MosP (m :: ms) (p :: ps)
theorem MosP.snoc {m : Mo} {p : Pg} (h : MoP m p) : ∀ {ms : List Mo} {ps : List Pg}, MosP ms ps → MosP (ms ++ [m]) (ps ++ [p])
  | _, _, .nil => .cons h .nil
  | _, _, .cons a b => .cons a (MosP.snoc h b)
theorem MosP.len : ∀ {ms : List Mo} {ps : List Pg}, MosP ms ps → ms.length = ps.length
  | _, _, .nil => rfl
  | _, _, .cons _ b => by rw [List.length_cons, List.length_cons, MosP.len b]
theorem MosP.mid : ∀ {ms1 ms2 : List Mo} {ys zs : List Pg} {v : Pg}, MosP ms1 ys → MosP (ms1 ++ ms2) (ys ++ v :: zs) → ∃ m ms2', ms2 = m :: ms2' ∧ MoP m v
  | _, _, _, _, _, .nil, h => by
    cases h with
    | cons a b => exact ⟨_, _, rfl, a⟩
  | _, _, _, _, _, .cons a b, h => by
    cases h with
    | cons c d => exact MosP.mid b d
theorem goK_pre : ∀ {ms1 : List Mo} {k : Kd} (ms2 : List Mo), goK k ms1 = none → goK k (ms1 ++ ms2) = none
  | [], k, ms2, h => by rw [goK_nil] at h; cases h
  | x :: ms1, k, ms2, h => by
    rw [List.cons_append]
    cases k <;> cases x <;> simp only [goK] at h ⊢
    · cases h2 : goK _ ms1 with
      | none => rw [goK_pre ms2 h2]; rfl
      | some r => rw [h2] at h; cases h
    · exact goK_pre ms2 h
    · cases h2 : goK _ ms1 with
      | none => rw [goK_pre ms2 h2]; rfl
      | some r => rw [h2] at h; cases h
def encEnt (x : Ent) : D := .tuple [x.1.enc, x.2.1.enc, .tuple (x.2.2.map Kd.enc)]
def encGo (S : List Kd) (o : Option (Kd × Nat × List (Kd × Pg))) : D := match o with
  | none => .none
  | some r => .tuple [r.1.enc, .int (r.2.1 : Nat), .list ((ents S r.2.2).map encEnt)]
def pGo : VSp := fun ss st Kp => ∃ (k : Kd) (ms : List Mo) (ps : List Pg) (S : List Kd), k.nodes ≤ 100000 ∧ MosP ms ps ∧ ps.length ≤ 100000 ∧ ss = [.val k.enc, .val (.list (ps.map Pg.enc)), .val (.tuple (S.map Kd.enc))] ∧ st = [] ∧ Kp (.val (encGo S (goK k ms))) []
theorem r_go {ss cs Kp} (h : pGo ss cs Kp) : t_gonealong pWayL (dV cs.length Kp) ⟨startV 6 ss, cs.map some⟩ := by
  obtain ⟨k, ms, ps, S, kn, hm, hl, rfl, rfl, q⟩ := h
  ktr_call "q4" ⟨t_gonealong, t_gonealong_11, t_gonealong_10, t_gonealong_9⟩
  refine fl_invW (chk := none) Pg.enc ps (fun ys e => ∃ (ms1 ms2 : List Mo) (k' : Kd) (w : Nat) (L : List (Kd × Pg)) (x : Option Sl), ms = ms1 ++ ms2 ∧ MosP ms1 ys ∧ goK k ms1 = some (k', w, L) ∧ k'.nodes ≤ k.nodes ∧ w + k'.nodes ≤ k.nodes ∧ L.length ≤ ys.length ∧ e = ⟨[some (.val k'.enc), some (.val (.list (ps.map Pg.enc))), some (.val (.tuple (S.map Kd.enc))), some (.val (.int (w : Nat))), some (.obj 0), x], [some (.l ((ents S L).map encEnt))]⟩) (fun _ _ _ => trivial) ?_ ?_ ⟨[], ms, k, 0, [], none, rfl, .nil, goK_nil k, Nat.le_refl _, by omega, Nat.le_refl _, rfl⟩
  · rintro ys v zs e Nx hys ⟨ms1, ms2, k', w, L, x, rfl, hm1, hg, kn', wn', ll, rfl⟩ hk
    obtain ⟨m, ms2', rfl, hmv⟩ : ∃ m ms2', ms2 = m :: ms2' ∧ MoP m v := MosP.mid hm1 (hys ▸ hm)
    have hl2 : ys.length + (v :: zs).length = ps.length := by rw [hys, List.length_append]
    simp only [List.length_cons] at hl2
    have hs : goK k (ms1 ++ [m]) = stepK (k', w, L) m := by rw [goK_snoc, hg]; rfl
    have hp : ms1 ++ m :: ms2' = (ms1 ++ [m]) ++ ms2' := by simp
    have bad : stepK (k', w, L) m = none → goK k (ms1 ++ m :: ms2') = none := fun e => by
      rw [hp]
      exact goK_pre ms2' (by rw [hs, e])
    have el : ((ents S L).map encEnt).length = L.length := by simp [ents]
    cases hmv with
    | fst p =>
      cases k' with
      | both a b =>
        simp only [t_gonealong_7, t_gonealong_6, t_gonealong_5, t_gonealong_4, Kd.enc, Pg.enc, Kd.nodes, flatD, List.any_cons, List.any_nil, eqv_str, eqv_int, eqv_ti, eqv_it, eqv_st, eqv_ts, cut1, Bool.or_false, Bool.or_true, Bool.and_self, Bool.and_true, Bool.and_false, Bool.false_or, Bool.true_or, and_self, ofs_inj, ofs_app, ofs_len, String.reduceEq, String.reduceNe, String.reduceAppend, decide_true, decide_false, Bool.not_true, Bool.not_false, sz0, sz1, sz2, sz3, sz4, sz5, sz6, sz7, sz8, sz9, sz10, sz11, sz12, sz13, sz14, sz15, sz16, sz17, sz18, sz19, sz20, sz21, sz22, sz23, sz24, sz25, cpow1018, true_and, and_true, Nat.reduceAdd, Nat.reduceLT, Nat.reduceSub, Int.reduceNe, Int.reduceEq, Int.reduceLT, Int.reduceLE, Int.reduceToNat, ne_eq, not_false_eq_true, List.length_map, Nat.lt_irrefl, dV_nx, dV_rt, at0, at1, at2, at3, ix20, ix21, vSeq, vIfS, vTest, vTruth, truth, v2, v1, vN, vCons, vNil, vStar, vVar, vC, xIx, Vl.opI0, Vl.opI, pk, vSet, vAug, vAsg, xgSub, vRet, vRetN, vDrop, vBreak, vCont, asD, asDs, opMod, opDiv, opMul2, Vl.opAdd, Vl.opAddO, opSub, opPow, opLt, Vl.opLe, opGt, Vl.opGe, xEq, okEq_str, okEq_int, xIn, okIn, inD, xIsN, isNone_n, isNone_t, isNone_l, isNone_i, isNone_s, isMo, mob, pkm, gModI, gDivI, gSubI, gMulI, gPowI, gGt, gLt, gLe, gGe, vNotT, vAndT, vOrT, vAndV, vOrV, opNot, opNotG, vIfE, opTup, opLst, opLstO, Vl.opLen, Vl.opInt, opList, opListO, opTuple, opII, gMax, gMin, vM, vM0, isT, xPop, Vl.opAppend, opExtend, opJoin, vgName, vgTup, vgCons, vgNil, kOpt_some, kOpn_some, kOps_some, Vl.opSum, Vl.opInsert, Vl.opIndex, opDivmod, vSl, vPart, vNoPart, opSl, opSlO, opRev, opCallK, ownD, ownO, objs, renum, uniq, getS, putS, vCall0, vFor, vForW, En.wk, vSeqI, vTupI, vRng1, vRng2, vRngD, vFn, vCallL, vOdd, vWays, vEnum, vZip, chkOf, vLcK, vYes, finD, finO, En.wipe, wipeE, En.trim, trimS, dropNone, clr_n, clr_v, clr_k, clr_o, wth, Vl.ret, takeS, startV,  List.map_cons, List.map_nil, List.length_cons, List.length_nil, List.cons_append, List.nil_append, List.replicate, List.getElem?_cons_succ, List.getElem?_cons_zero, List.getElem?_nil, List.set_cons_succ, List.set_cons_zero, List.set_nil, List.all_nil, List.all_cons, Bool.true_and, Option.map_some, Option.map_none, if_true, if_false, decide_eq_true_eq, Bool.false_eq_true, List.take_succ_cons, List.take_zero, List.take_nil, List.drop_succ_cons, List.drop_zero, List.drop_nil, reduceIte, reduceCtorEq] at kn' wn' ⊢
        rw [vNext_mk]
        ktr_call "q4" ⟨t_gonealong_6, t_gonealong_5, t_gonealong_4⟩
        rw [vNext_mk]
        ktr_call "q4" ⟨t_gonealong_5⟩
        refine hk ⟨[some (.val a.enc), some (.val (.list (ps.map Pg.enc))), some (.val (.tuple (S.map Kd.enc))), some (.val (.int (w : Nat))), some (.obj 0), some (.val (Pg.first p).enc)], [some (.l ((ents S L).map encEnt))]⟩ 1 [] (Nat.le_refl _) ⟨ms1 ++ [.fst], ms2', a, w, L, some (.val (Pg.first p).enc), hp, hm1.snoc (.fst p), hs, by omega, by omega, by rw [List.length_append]; omega, rfl⟩
      | _ =>
        rw [bad rfl] at q
        ktr_call "q4" ⟨t_gonealong_7, t_gonealong_1, Kd.enc, Pg.enc⟩
        exact q
    | snd p =>
      cases k' with
      | both a b =>
        simp only [t_gonealong_7, t_gonealong_6, t_gonealong_5, t_gonealong_4, t_gonealong_3, Kd.enc, Pg.enc, Kd.nodes, flatD, List.any_cons, List.any_nil, eqv_str, eqv_int, eqv_ti, eqv_it, eqv_st, eqv_ts, cut1, Bool.or_false, Bool.or_true, Bool.and_self, Bool.and_true, Bool.and_false, Bool.false_or, Bool.true_or, and_self, ofs_inj, ofs_app, ofs_len, String.reduceEq, String.reduceNe, String.reduceAppend, decide_true, decide_false, Bool.not_true, Bool.not_false, sz0, sz1, sz2, sz3, sz4, sz5, sz6, sz7, sz8, sz9, sz10, sz11, sz12, sz13, sz14, sz15, sz16, sz17, sz18, sz19, sz20, sz21, sz22, sz23, sz24, sz25, cpow1018, true_and, and_true, Nat.reduceAdd, Nat.reduceLT, Nat.reduceSub, Int.reduceNe, Int.reduceEq, Int.reduceLT, Int.reduceLE, Int.reduceToNat, ne_eq, not_false_eq_true, List.length_map, Nat.lt_irrefl, dV_nx, dV_rt, at0, at1, at2, at3, ix20, ix21, vSeq, vIfS, vTest, vTruth, truth, v2, v1, vN, vCons, vNil, vStar, vVar, vC, xIx, Vl.opI0, Vl.opI, pk, vSet, vAug, vAsg, xgSub, vRet, vRetN, vDrop, vBreak, vCont, asD, asDs, opMod, opDiv, opMul2, Vl.opAdd, Vl.opAddO, opSub, opPow, opLt, Vl.opLe, opGt, Vl.opGe, xEq, okEq_str, okEq_int, xIn, okIn, inD, xIsN, isNone_n, isNone_t, isNone_l, isNone_i, isNone_s, isMo, mob, pkm, gModI, gDivI, gSubI, gMulI, gPowI, gGt, gLt, gLe, gGe, vNotT, vAndT, vOrT, vAndV, vOrV, opNot, opNotG, vIfE, opTup, opLst, opLstO, Vl.opLen, Vl.opInt, opList, opListO, opTuple, opII, gMax, gMin, vM, vM0, isT, xPop, Vl.opAppend, opExtend, opJoin, vgName, vgTup, vgCons, vgNil, kOpt_some, kOpn_some, kOps_some, Vl.opSum, Vl.opInsert, Vl.opIndex, opDivmod, vSl, vPart, vNoPart, opSl, opSlO, opRev, opCallK, ownD, ownO, objs, renum, uniq, getS, putS, vCall0, vFor, vForW, En.wk, vSeqI, vTupI, vRng1, vRng2, vRngD, vFn, vCallL, vOdd, vWays, vEnum, vZip, chkOf, vLcK, vYes, finD, finO, En.wipe, wipeE, En.trim, trimS, dropNone, clr_n, clr_v, clr_k, clr_o, wth, Vl.ret, takeS, startV,  List.map_cons, List.map_nil, List.length_cons, List.length_nil, List.cons_append, List.nil_append, List.replicate, List.getElem?_cons_succ, List.getElem?_cons_zero, List.getElem?_nil, List.set_cons_succ, List.set_cons_zero, List.set_nil, List.all_nil, List.all_cons, Bool.true_and, Option.map_some, Option.map_none, if_true, if_false, decide_eq_true_eq, Bool.false_eq_true, List.take_succ_cons, List.take_zero, List.take_nil, List.drop_succ_cons, List.drop_zero, List.drop_nil, reduceIte, reduceCtorEq] at kn' wn' ⊢
        rw [vNext_mk]
        ktr_call "q4" ⟨t_gonealong_6, t_gonealong_4, t_gonealong_3⟩
        refine ⟨a, by omega, rfl, rfl, ?_⟩
        ktr_call "q4" ⟨t_gonealong_5, List.length_map, wayL_len⟩
        have nw := nways_nodes a
        refine hk ⟨[some (.val b.enc), some (.val (.list (ps.map Pg.enc))), some (.val (.tuple (S.map Kd.enc))), some (.val (.int ((w + a.nways : Nat) : Int))), some (.obj 0), some (.val (Pg.second p).enc)], [some (.l ((ents S L).map encEnt))]⟩ 1 [] (Nat.le_refl _) ⟨ms1 ++ [.snd], ms2', b, w + a.nways, L, some (.val (Pg.second p).enc), hp, hm1.snoc (.snd p), hs, by omega, by omega, by rw [List.length_append]; omega, rfl⟩
      | _ =>
        rw [bad rfl] at q
        ktr_call "q4" ⟨t_gonealong_7, t_gonealong_1, Kd.enc, Pg.enc⟩
        exact q
    | giv p r =>
      cases k' with
      | to a b =>
        simp only [t_gonealong_7, t_gonealong_6, t_gonealong_5, t_gonealong_2, Kd.enc, Pg.enc, Kd.nodes, flatD, List.any_cons, List.any_nil, eqv_str, eqv_int, eqv_ti, eqv_it, eqv_st, eqv_ts, cut1, Bool.or_false, Bool.or_true, Bool.and_self, Bool.and_true, Bool.and_false, Bool.false_or, Bool.true_or, and_self, ofs_inj, ofs_app, ofs_len, String.reduceEq, String.reduceNe, String.reduceAppend, decide_true, decide_false, Bool.not_true, Bool.not_false, sz0, sz1, sz2, sz3, sz4, sz5, sz6, sz7, sz8, sz9, sz10, sz11, sz12, sz13, sz14, sz15, sz16, sz17, sz18, sz19, sz20, sz21, sz22, sz23, sz24, sz25, cpow1018, true_and, and_true, Nat.reduceAdd, Nat.reduceLT, Nat.reduceSub, Int.reduceNe, Int.reduceEq, Int.reduceLT, Int.reduceLE, Int.reduceToNat, ne_eq, not_false_eq_true, List.length_map, Nat.lt_irrefl, dV_nx, dV_rt, at0, at1, at2, at3, ix20, ix21, vSeq, vIfS, vTest, vTruth, truth, v2, v1, vN, vCons, vNil, vStar, vVar, vC, xIx, Vl.opI0, Vl.opI, pk, vSet, vAug, vAsg, xgSub, vRet, vRetN, vDrop, vBreak, vCont, asD, asDs, opMod, opDiv, opMul2, Vl.opAdd, Vl.opAddO, opSub, opPow, opLt, Vl.opLe, opGt, Vl.opGe, xEq, okEq_str, okEq_int, xIn, okIn, inD, xIsN, isNone_n, isNone_t, isNone_l, isNone_i, isNone_s, isMo, mob, pkm, gModI, gDivI, gSubI, gMulI, gPowI, gGt, gLt, gLe, gGe, vNotT, vAndT, vOrT, vAndV, vOrV, opNot, opNotG, vIfE, opTup, opLst, opLstO, Vl.opLen, Vl.opInt, opList, opListO, opTuple, opII, gMax, gMin, vM, vM0, isT, xPop, Vl.opAppend, opExtend, opJoin, vgName, vgTup, vgCons, vgNil, kOpt_some, kOpn_some, kOps_some, Vl.opSum, Vl.opInsert, Vl.opIndex, opDivmod, vSl, vPart, vNoPart, opSl, opSlO, opRev, opCallK, ownD, ownO, objs, renum, uniq, getS, putS, vCall0, vFor, vForW, En.wk, vSeqI, vTupI, vRng1, vRng2, vRngD, vFn, vCallL, vOdd, vWays, vEnum, vZip, chkOf, vLcK, vYes, finD, finO, En.wipe, wipeE, En.trim, trimS, dropNone, clr_n, clr_v, clr_k, clr_o, wth, Vl.ret, takeS, startV,  List.map_cons, List.map_nil, List.length_cons, List.length_nil, List.cons_append, List.nil_append, List.replicate, List.getElem?_cons_succ, List.getElem?_cons_zero, List.getElem?_nil, List.set_cons_succ, List.set_cons_zero, List.set_nil, List.all_nil, List.all_cons, Bool.true_and, Option.map_some, Option.map_none, if_true, if_false, decide_eq_true_eq, Bool.false_eq_true, List.take_succ_cons, List.take_zero, List.take_nil, List.drop_succ_cons, List.drop_zero, List.drop_nil, reduceIte, reduceCtorEq] at kn' wn' ⊢
        rw [vNext_mk]
        ktr_call "q4" ⟨t_gonealong_6, t_gonealong_2, t_gonealong_5⟩
        refine ⟨bigl (by have : (ents S L).length = L.length := (by simp [ents]); omega), ?_⟩
        have ee : (ents S L).map encEnt ++ [.tuple [a.enc, r.enc, .tuple (S.map Kd.enc)]] = (ents S (L ++ [(a, r)])).map encEnt := by simp [ents, encEnt]
        rw [ee]
        refine hk ⟨[some (.val b.enc), some (.val (.list (ps.map Pg.enc))), some (.val (.tuple (S.map Kd.enc))), some (.val (.int (w : Nat))), some (.obj 0), some (.val (Pg.give p r).enc)], [some (.l ((ents S (L ++ [(a, r)])).map encEnt))]⟩ 1 [] (Nat.le_refl _) ⟨ms1 ++ [.giv r], ms2', b, w, L ++ [(a, r)], some (.val (Pg.give p r).enc), hp, hm1.snoc (.giv p r), hs, by omega, by omega, by rw [List.length_append, List.length_append, List.length_singleton, List.length_singleton]; omega, rfl⟩
      | _ =>
        rw [bad rfl] at q
        ktr_call "q4" ⟨t_gonealong_7, t_gonealong_1, Kd.enc, Pg.enc⟩
        exact q
  · rintro e ⟨ms1, ms2, k', w, L, x, rfl, hm1, hg, kn', wn', ll, rfl⟩
    have e0 : ms2 = [] := by
      have h1 := hm.len
      have h2 := hm1.len
      rw [List.length_append] at h1
      exact List.eq_nil_of_length_eq_zero (by omega)
    subst e0
    rw [List.append_nil, hg] at q
    ktr_call "q4" ⟨t_gonealong_8⟩
    exact q
def frame (S : List Kd) (n : Nat) : Kd → Pg → Option (List Ent)
  | .one, .thing => some []
  | .both a b, .pair q r => some [(a, q, S), (b, r, S)]
  | .to a b, .take x k q => if kdOk k ∧ x = xN (S.length - n) ∧ k = a then some [(b, q, S ++ [a])] else none
  | _, _ => none
def encIn (o : Option (List Ent)) : D := match o with
  | none => .none
  | some es => .list (es.map encEnt)
def Kd.nomark : Kd → Prop
  | .mark _ => False
  | _ => True
def kOk (M : List Str) (k : Kd) : Prop := k.over M ∧ k.nodes ≤ 10000 ∧ k.deep ≤ 150
theorem kOk.shp {M : List Str} (hM : okM M) {k : Kd} (h : kOk M k) : Vl.shp k.enc = true := by
  unfold Vl.shp
  rw [k.can_enc (fun m hm => (hM m hm).2.2) h.1, k.depth_enc, decide_eq_true (by have := h.2.2; omega)]
  rfl
theorem kOk.to {M : List Str} {a b : Kd} (h : kOk M (.to a b)) : kOk M a ∧ kOk M b := by
  obtain ⟨h1, h2, h3⟩ := h
  simp only [Kd.nodes, Kd.deep] at h2 h3
  exact ⟨⟨h1.1, by omega, by omega⟩, h1.2, by omega, by omega⟩
theorem kOk.both {M : List Str} {a b : Kd} (h : kOk M (.both a b)) : kOk M a ∧ kOk M b := by
  obtain ⟨h1, h2, h3⟩ := h
  simp only [Kd.nodes, Kd.deep] at h2 h3
  exact ⟨⟨h1.1, by omega, by omega⟩, h1.2, by omega, by omega⟩
/-- the kinds that are told in a program -/
def Pg.ov (M : List Str) : Pg → Prop
  | .name _ => True
  | .take x k p => kOk M k ∧ p.ov M
  | .give p q => p.ov M ∧ q.ov M
  | .pair p q => p.ov M ∧ q.ov M
  | .first p => p.ov M
  | .second p => p.ov M
  | .thing => True
theorem spB_frame {rn : List Str} {S : List Kd} {κ : Kd} (hk : κ.nomark) (p : Pg) : spB rn p S κ = (frame S rn.length κ p).bind (seqE rn) := by
  have one : ∀ (k : Kd) (q : Pg) (T : List Kd), seqE rn [(k, q, T)] = spB rn q T k := fun k q T => by
    simp only [seqE]
    cases spB rn q T k <;> simp
  cases κ with
  | mark m => exact hk.elim
  | one => cases p <;> rfl
  | both a b =>
    cases p <;> try rfl
    rename_i q r
    show ((AB rn q).2 S a).bind (fun x => ((AB rn r).2 S b).map fun y => x ++ y) = seqE rn [(a, q, S), (b, r, S)]
    rw [seqE, one]
    rfl
  | to a b =>
    cases p <;> try rfl
    rename_i x k q
    show (if kdOk k ∧ x = xN (S.length - rn.length) ∧ k = a then (AB rn q).2 (S ++ [a]) b else none) = _
    simp only [frame]
    by_cases h : kdOk k ∧ x = xN (S.length - rn.length) ∧ k = a
    · rw [if_pos h, if_pos h, Option.bind_some, one]
      rfl
    · rw [if_neg h, if_neg h]
      rfl
def pFr (M : List Str) : VSp := fun ss st Kp => ∃ (κ : Kd) (S : List Kd) (n : Nat), κ.nomark ∧ kOk M κ ∧ n ≤ S.length ∧ S.length ≤ 100000 ∧ st = [] ∧ ((∃ p : Pg, p.ov M ∧ ss = [.val p.enc, .val κ.enc, .val (.tuple (S.map Kd.enc)), .val (.int (n : Nat))] ∧ Kp (.val (encIn (frame S n κ p))) []) ∨ ∃ d : D, junkP d ∧ ss = [.val d, .val κ.enc, .val (.tuple (S.map Kd.enc)), .val (.int (n : Nat))] ∧ Kp (.val .none) [])
theorem isK_iff {k : Kd} : isK k = true ↔ kdOk k := by
  unfold isK kdOk
  simp
theorem w_thing {p : Pg} (h : p.word = Str.ofString "thing") : p = .thing := by
  cases p <;> simp only [Pg.word] at h <;> first | rfl | exact absurd h (by decide +kernel)
theorem w_pair {p : Pg} (h : p.word = Str.ofString "pair") : ∃ q r, p = .pair q r := by
  cases p <;> simp only [Pg.word] at h <;> first | exact ⟨_, _, rfl⟩ | exact absurd h (by decide +kernel)
theorem w_take {p : Pg} (h : p.word = Str.ofString "take") : ∃ x k q, p = .take x k q := by
  cases p <;> simp only [Pg.word] at h <;> first | exact ⟨_, _, _, rfl⟩ | exact absurd h (by decide +kernel)
theorem w_name {p : Pg} (h : p.word = Str.ofString "name") : ∃ x, p = .name x := by
  cases p <;> simp only [Pg.word] at h <;> first | exact ⟨_, rfl⟩ | exact absurd h (by decide +kernel)
theorem hw_mk (p : Pg) (w : Str) {K : Sl → List Ob → Prop} (hw : w ∈ wds) (k : K (.val (.bool (decide (p.word = w)))) []) : pHw [.val p.enc, .val (.str w)] [] K := .inl ⟨p, w, hw, rfl, rfl, k⟩
theorem hw_junk {d : D} (w : Str) {K : Sl → List Ob → Prop} (hd : junkP d) (hw : w ∈ wds) (k : K (.val (.bool false)) []) : pHw [.val d, .val (.str w)] [] K := .inr ⟨d, w, hd, hw, rfl, rfl, k⟩
theorem r_fr {M : List Str} (hM : okM M) {ss cs Kp} (h : pFr M ss cs Kp) : t_readframe pHw (pIsM M) (dV cs.length Kp) ⟨startV 4 ss, cs.map some⟩ := by
  obtain ⟨κ, S, n, nm, kn, nS, Sb, rfl, h⟩ := h
  rcases h with ⟨p, po, rfl, q⟩ | ⟨d, hd, rfl, q⟩
  · cases κ with
    | mark m => exact nm.elim
    | one =>
      ktr_call "q4" ⟨t_readframe, t_readframe_11, t_readframe_1, Kd.enc⟩
      refine hw_mk p "thing" (by decide +kernel) ?_
      ktr_call "q4" "0"
      by_cases hw : p.word = Str.ofString "thing"
      · rw [if_pos hw]
        obtain rfl := w_thing hw
        exact q
      · rw [if_neg hw]
        cases p <;> first | exact q | exact absurd rfl hw
    | both a b =>
      ktr_call "q4" ⟨t_readframe, t_readframe_11, Kd.enc⟩
      rw [vNext_mk]
      ktr_call "q4" ⟨t_readframe_10, t_readframe_4⟩
      refine hw_mk p "pair" (by decide +kernel) ?_
      ktr_call "q4" "0"
      by_cases hw : p.word = Str.ofString "pair"
      · rw [if_neg (by rw [decide_eq_true hw]; decide), vNext_mk]
        obtain ⟨x, y, rfl⟩ := w_pair hw
        ktr_call "q4" ⟨t_readframe_3, Pg.enc⟩
        exact q
      · rw [if_pos (by rw [decide_eq_false hw]; decide)]
        ktr_call "q4" ⟨t_readframe_2⟩
        cases p <;> first | exact q | exact absurd rfl hw
    | to a b =>
      ktr_call "q4" ⟨t_readframe, t_readframe_11, Kd.enc⟩
      rw [vNext_mk]
      ktr_call "q4" ⟨t_readframe_10⟩
      rw [vNext_mk]
      ktr_call "q4" ⟨t_readframe_9⟩
      refine hw_mk p "take" (by decide +kernel) ?_
      ktr_call "q4" "0"
      by_cases hw : p.word = Str.ofString "take"
      · rw [if_neg (by rw [decide_eq_true hw]; decide)]
        obtain ⟨x, k, p', rfl⟩ := w_take hw
        ktr_call "q4" ⟨Pg.enc, vIsi⟩
        refine ⟨true, kit_ss _, ?_⟩
        rw [if_neg (by decide)]
        refine ⟨k, po.1.1, rfl, rfl, po.1.2.1, ?_⟩
        ktr_call "q4" "0"
        by_cases hk : kdOk k
        · rw [if_neg (by rw [isK_iff.mpr hk]; decide), vNext_mk]
          have ei : ((S.length : Nat) : Int) - ((n : Nat) : Int) = ((S.length - n : Nat) : Int) := by omega
          ktr_call "q4" ⟨t_readframe_8, vJoinC, vFmt⟩
          rw [ei]
          refine ⟨lgx, lg (by omega), lgs (by omega), ?_⟩
          simp only [frame] at q
          by_cases hx : x = xN (S.length - n)
          · rw [if_neg (by rw [decide_eq_true (show x = Str.ofString ("x" ++ toString ((S.length - n : Nat) : Int)) from hx)]; decide)]
            refine ⟨okEq_of (po.1.shp hM) (kn.to.1.shp hM), ?_⟩
            by_cases hk2 : k = a
            · rw [if_neg (by rw [(Kd.eqv_iff k a).mpr hk2]; decide), vNext_mk]
              rw [if_pos ⟨hk, hx, hk2⟩] at q
              ktr_call "q4" ⟨t_readframe_7⟩
              refine ⟨big (by omega), ?_⟩
              rw [show S.map Kd.enc ++ [a.enc] = (S ++ [a]).map Kd.enc from by simp]
              exact q
            · rw [if_pos (by rw [Bool.eq_false_iff.mpr fun e => hk2 ((Kd.eqv_iff k a).mp e)]; rfl)]
              rw [if_neg fun e => hk2 e.2.2] at q
              ktr_call "q4" ⟨t_readframe_6⟩
              exact q
          · rw [if_pos (by rw [decide_eq_false (show ¬ x = Str.ofString ("x" ++ toString ((S.length - n : Nat) : Int)) from hx)]; rfl)]
            rw [if_neg fun e => hx e.2.1] at q
            ktr_call "q4" ⟨t_readframe_6⟩
            exact q
        · rw [if_pos (by rw [Bool.eq_false_iff.mpr fun e => hk (isK_iff.mp e)]; rfl)]
          ktr_call "q4" ⟨t_readframe_5⟩
          simp only [frame] at q
          rw [if_neg fun e => hk e.1] at q
          exact q
      · rw [if_pos (by rw [decide_eq_false hw]; rfl)]
        ktr_call "q4" ⟨t_readframe_5⟩
        cases p <;> first | exact q | exact absurd rfl hw
  · cases κ with
    | mark m => exact nm.elim
    | one =>
      ktr_call "q4" ⟨t_readframe, t_readframe_11, t_readframe_1, Kd.enc⟩
      refine hw_junk "thing" hd (by decide +kernel) ?_
      ktr_call "q4" "0"
      exact q
    | both a b =>
      ktr_call "q4" ⟨t_readframe, t_readframe_11, Kd.enc⟩
      rw [vNext_mk]
      ktr_call "q4" ⟨t_readframe_10, t_readframe_4⟩
      refine hw_junk "pair" hd (by decide +kernel) ?_
      ktr_call "q4" ⟨t_readframe_2⟩
      exact q
    | to a b =>
      ktr_call "q4" ⟨t_readframe, t_readframe_11, Kd.enc⟩
      rw [vNext_mk]
      ktr_call "q4" ⟨t_readframe_10⟩
      rw [vNext_mk]
      ktr_call "q4" ⟨t_readframe_9⟩
      refine hw_junk "take" hd (by decide +kernel) ?_
      ktr_call "q4" ⟨t_readframe_5⟩
      exact q
theorem atI_n (ds : List D) (i : Nat) : L2.atI ds ((i : Nat) : Int) = ds[i]? := by
  unfold L2.atI L2.ixN
  rw [if_pos (by omega)]
  by_cases h : i < ds.length
  · rw [if_pos (by omega)]
    show ds[((i : Nat) : Int).toNat]? = _
    rw [Int.toNat_natCast]
  · rw [if_neg (by omega), List.getElem?_eq_none (by omega)]
    rfl
theorem goK_ok {M : List Str} : ∀ (ms : List Mo) {k k' : Kd} {w : Nat} {L : List (Kd × Pg)}, kOk M k → goK k ms = some (k', w, L) → kOk M k' ∧ ∀ x ∈ L, kOk M x.1
  | [], k, k', w, L, h, e => by
    rw [goK_nil] at e
    cases e
    exact ⟨h, fun x hx => by cases hx⟩
  | x :: ms, k, k', w, L, h, e => by
    cases k with
    | mark _ => cases x <;> cases e
    | one => cases x <;> cases e
    | to a b =>
      cases x with
      | giv q =>
        simp only [goK] at e
        obtain ⟨r, h1, h2⟩ := Option.map_eq_some_iff.mp e
        obtain ⟨k1, w1, L1⟩ := r
        cases h2
        have ih := goK_ok ms h.to.2 h1
        refine ⟨ih.1, fun x hx => ?_⟩
        rcases List.mem_cons.mp hx with rfl | hx
        · exact h.to.1
        · exact ih.2 x hx
      | _ => cases e
    | both a b =>
      cases x with
      | giv q => cases e
      | fst =>
        simp only [goK] at e
        exact goK_ok ms h.both.1 e
      | snd =>
        simp only [goK] at e
        obtain ⟨r, h1, h2⟩ := Option.map_eq_some_iff.mp e
        obtain ⟨k1, w1, L1⟩ := r
        cases h2
        exact goK_ok ms h.both.2 h1
structure NumOk (rn : List Str) (kvs : List (Ky × D)) (N : Nat) : Prop where
  fnd : ∀ z d, findK kvs (.inr z) = some d → ∃ i : Nat, nmAt rn z = some i ∧ d = .int (i : Nat)
  has : ∀ z i, nmAt rn z = some i → i < N → findK kvs (.inr z) = some (.int (i : Nat))
noncomputable def spotR (rn : List Str) (S : List Kd) (m : Str) (p : Pg) : Option (Nat × Nat × List (Kd × Pg)) := match p.spine with
  | (.name x, ms) => (nmAt rn x).bind fun i => (S[i]?).bind fun k => (goK k ms).bind fun r => match r.1 with
    | .mark m' => if m' = m then some (i, r.2.1, r.2.2) else none
    | _ => none
  | _ => none
theorem spB_spot {rn : List Str} {S : List Kd} {m : Str} (p : Pg) : spB rn p S (.mark m) = (spotR rn S m p).bind fun t => (seqE rn (ents S t.2.2)).map fun y => ⟨S, t.1, t.2.1, m⟩ :: y := by
  rw [spB_mark, spA_spine]
  unfold spotR
  generalize p.spine = hs
  obtain ⟨h, ms⟩ := hs
  cases h with
  | name x =>
    simp only
    cases nmAt rn x with
    | none => rfl
    | some i =>
      simp only [Option.bind_some]
      cases S[i]? with
      | none => rfl
      | some k =>
        simp only [Option.bind_some]
        cases goK k ms with
        | none => rfl
        | some r =>
          obtain ⟨k', w, L⟩ := r
          simp only [Option.bind_some]
          cases k' with
          | mark m' =>
            simp only
            by_cases hm : m' = m
            · rw [if_pos hm, Option.bind_some]
              cases seqE rn (ents S L) with
              | none => rfl
              | some y =>
                simp only [Option.map_some, finS]
                rw [if_pos hm]
            · rw [if_neg hm, Option.bind_none]
              cases seqE rn (ents S L) with
              | none => rfl
              | some y =>
                simp only [Option.map_some, finS]
                rw [if_neg hm]
          | _ =>
            simp only [Option.bind_none]
            cases seqE rn (ents S L) <;> rfl
  | _ => rfl
def pSpot (M : List Str) : VSp := fun ss st Kp => ∃ (rn : List Str) (m : Str) (S : List Kd) (N : Nat) (kvs : List (Ky × D)) (ds : List D), m ∈ M ∧ (∀ k ∈ S, kOk M k) ∧ S.length ≤ N ∧ S.length ≤ 100000 ∧ NumOk rn kvs N ∧ ds.length ≤ 1000000 ∧ st = [.m kvs, .l ds] ∧ ((∃ p : Pg, p.size ≤ 100000 ∧ ss = [.val p.enc, .val (.str m), .val (.tuple (S.map Kd.enc)), .obj 0, .obj 1] ∧ (match spotR rn S m p with
    | none => Kp (.val .none) st
    | some t => Kp (.val (.list ((ents S t.2.2).map encEnt))) [.m kvs, .l (ds ++ [encSpt ⟨S, t.1, t.2.1, m⟩])])) ∨ ∃ d : D, junkP d ∧ ss = [.val d, .val (.str m), .val (.tuple (S.map Kd.enc)), .obj 0, .obj 1] ∧ Kp (.val .none) st)
theorem ag_hw {d : D} (f : Str → Bool) (hf : ∀ w ∈ wds, ∀ K : Sl → List Ob → Prop, K (.val (.bool (f w))) [] → pHw [.val d, .val (.str w)] [] K) {st : List (Option Ob)} {Kp : Bool → En → Prop} : ∀ (ws : List Str) (s : Option Sl), (∀ w ∈ ws, w ∈ wds) → (∀ s0, Kp (ws.any f) ⟨[s0, some (.val d)], st⟩) → ag false (vgName 0) (vN (opCallK ownD pHw) (vCons (vVar 1) (vCons (vVar 0) vNil))) none [0] (ws.map .str) ⟨[s, some (.val d)], st⟩ Kp
  | [], s, _, h => h s
  | w :: ws, s, ok, h => by
    rw [List.map_cons]
    ktr_call "q2" ⟨ag⟩
    refine hf w (ok w List.mem_cons_self) _ ?_
    rw [List.any_cons] at h
    cases hc : f w with
    | true =>
      ktr_call "q2" "0"
      have := h (some (.val (.str w)))
      rw [hc, Bool.true_or] at this
      exact this
    | false =>
      ktr_call "q2" "0"
      refine ag_hw f hf ws none (fun x hx => ok x (List.mem_cons_of_mem _ hx)) fun s0 => ?_
      have := h s0
      rw [hc, Bool.false_or] at this
      exact this
abbrev mvs : List Str := ["first", "second", "give"]
theorem mvs_in : ∀ w ∈ mvs, w ∈ wds := by decide +kernel
theorem w_move {p : Pg} (h : (mvs.any fun w => decide (p.word = w)) = true) : ∃ (q : Pg) (mo : Mo), MoP mo p ∧ p.spine = (q.spine.1, q.spine.2 ++ [mo]) ∧ q.size + 1 ≤ p.size ∧ ∃ w ds, p.enc = .tuple (.str w :: q.enc :: ds) := by
  cases p with
  | first q => exact ⟨q, .fst, .fst q, rfl, by simp only [Pg.size]; omega, _, _, rfl⟩
  | second q => exact ⟨q, .snd, .snd q, rfl, by simp only [Pg.size]; omega, _, _, rfl⟩
  | give q r => exact ⟨q, .giv r, .giv q r, rfl, by simp only [Pg.size]; omega, _, _, rfl⟩
  | name x => exact absurd h (show ¬ (mvs.any fun w => decide (Str.ofString "name" = w)) = true by decide +kernel)
  | take x k p => exact absurd h (show ¬ (mvs.any fun w => decide (Str.ofString "take" = w)) = true by decide +kernel)
  | pair x y => exact absurd h (show ¬ (mvs.any fun w => decide (Str.ofString "pair" = w)) = true by decide +kernel)
  | thing => exact absurd h (show ¬ (mvs.any fun w => decide (Str.ofString "thing" = w)) = true by decide +kernel)
theorem w_still {p : Pg} (hn : ¬ p.word = Str.ofString "name") (h : (mvs.any fun w => decide (p.word = w)) = false) : p.spine.2 = [] ∧ ∀ x, p.spine.1 ≠ .name x := by
  cases p with
  | name x => exact absurd rfl hn
  | first q => exact absurd h (show ¬ (mvs.any fun w => decide (Str.ofString "first" = w)) = false by decide +kernel)
  | second q => exact absurd h (show ¬ (mvs.any fun w => decide (Str.ofString "second" = w)) = false by decide +kernel)
  | give q r => exact absurd h (show ¬ (mvs.any fun w => decide (Str.ofString "give" = w)) = false by decide +kernel)
  | _ => exact ⟨rfl, fun x e => by cases e⟩
theorem r_spot {M : List Str} (hM : okM M) {ss cs Kp} (h : pSpot M ss cs Kp) : t_readspot pHw pGo (dV cs.length Kp) ⟨startV 8 ss, cs.map some⟩ := by
  obtain ⟨rn, m, S, N, kvs, ds, mM, Sk, SN, Sb, nk, db, rfl, h⟩ := h
  rcases h with ⟨P, ps, rfl, q⟩ | ⟨d, hd, rfl, q⟩
  · ktr_call "q4" ⟨t_readspot, t_readspot_14, t_readspot_13⟩
    refine while_invW (fun n e => ∃ (p : Pg) (ps : List Pg) (ms : List Mo), e = ⟨[some (.val p.enc), some (.val (.str m)), some (.val (.tuple (S.map Kd.enc))), some (.obj 0), some (.obj 1), some (.obj 2), none, none], [some (.m kvs), some (.l ds), some (.l (ps.map Pg.enc))]⟩ ∧ n = p.size ∧ ps.length + p.size ≤ P.size ∧ MosP ms ps.reverse ∧ P.spine = (p.spine.1, p.spine.2 ++ ms)) ?_ (m := P.size) ⟨P, [], [], rfl, rfl, by simp, .nil, by simp⟩
    rintro n e Nx ⟨p, pl, ms, rfl, rfl, hl, hm, hs⟩ hk
    ktr_call "q4" "0"
    refine hw_mk p "name" (by decide +kernel) ?_
    ktr_call "q4" "0"
    by_cases hw : p.word = Str.ofString "name"
    · rw [if_neg (by rw [decide_eq_true hw]; decide)]
      obtain ⟨x, rfl⟩ := w_name hw
      ktr_call "q4" ⟨t_readspot_12, Pg.enc, vIsi, vDGet2, isDO, dGetO, dKey⟩
      refine ⟨true, kit_ss _, ?_⟩
      rw [if_pos rfl]
      simp only [Pg.spine, List.nil_append] at hs
      have e1 : spotR rn S m P = (nmAt rn x).bind fun i => (S[i]?).bind fun k => (goK k ms).bind fun r => match r.1 with
          | .mark m' => if m' = m then some (i, r.2.1, r.2.2) else none
          | _ => none := by
        unfold spotR
        rw [hs]
      have lS : (S.map Kd.enc).length = S.length := by simp
      have out : ∀ i : Nat, S.length ≤ i → t_readspot_11 pHw pGo (dV 2 Kp) ⟨[some (.val (Pg.name x).enc), some (.val (.str m)), some (.val (.tuple (S.map Kd.enc))), some (.obj 0), some (.obj 1), some (.obj 2), some (.val (.int (i : Nat))), none], [some (.m kvs), some (.l ds), some (.l (pl.map Pg.enc))]⟩ ∨ spotR rn S m P ≠ none := fun i hi => by
        by_cases e : spotR rn S m P = none
        · rw [e] at q
          left
          ktr_call "q4" ⟨t_readspot_11, t_readspot_5⟩
          rw [if_pos (by omega)]
          exact q
        · exact .inr e
      cases hn : nmAt rn x with
      | none =>
        have e2 : findK kvs (.inr x) = none := by
          cases hf : findK kvs (.inr x) with
          | none => rfl
          | some d =>
            obtain ⟨i, h1, _⟩ := nk.fnd x d hf
            rw [hn] at h1
            cases h1
        rw [hn] at e1
        rw [e2]
        exact (out S.length (Nat.le_refl _)).resolve_right fun h => h e1
      | some i =>
        rw [hn, Option.bind_some] at e1
        by_cases hi : i < S.length
        · rw [nk.has x i hn (by omega)]
          have hSi : S[i]? = some S[i] := List.getElem?_eq_getElem hi
          rw [hSi, Option.bind_some] at e1
          have kO := Sk S[i] (List.getElem_mem hi)
          generalize hk0 : S[i] = k0 at *
          have eat : atI (S.map Kd.enc) ((i : Nat) : Int) = some k0.enc := by
            rw [atI_n, List.getElem?_map, hSi]
            rfl
          ktr_call "q4" ⟨t_readspot_11, Option.map_some, Option.getD_some⟩
          rw [if_neg (by omega), vNext_mk]
          ktr_call "q4" ⟨t_readspot_10, eat⟩
          refine ⟨k0, ms, pl.reverse, S, by have := kO.2.1; omega, hm, by rw [List.length_reverse]; omega, by rw [List.map_reverse], rfl, ?_⟩
          cases hg : goK k0 ms with
          | none =>
            rw [hg] at e1
            ktr_call "q4" ⟨encGo, t_readspot_9, t_readspot_6⟩
            rw [e1] at q
            exact q
          | some r =>
            obtain ⟨k', w, L⟩ := r
            rw [hg, Option.bind_some] at e1
            simp only at e1
            ktr_call "q4" ⟨encGo, t_readspot_9⟩
            refine ⟨okEq_of ((goK_ok ms kO hg).1.shp hM) (kOk.shp hM (k := .mark m) ⟨mM, by simp only [Kd.nodes]; omega, by simp only [Kd.deep]; omega⟩), ?_⟩
            have em : PyData.tuple [PyData.str (Str.ofString "mark"), PyData.str m] = (Kd.mark m).enc := rfl
            rw [em]
            by_cases hk' : k' = .mark m
            · rw [if_neg (by rw [(Kd.eqv_iff k' (.mark m)).mpr hk']; decide), vNext_mk]
              subst hk'
              simp only [if_pos] at e1
              rw [e1] at q
              ktr_call "q4" ⟨t_readspot_8, t_readspot_7⟩
              refine ⟨bigl (by omega), ?_⟩
              exact q
            · rw [if_pos (by rw [Bool.eq_false_iff.mpr fun e => hk' ((Kd.eqv_iff k' (.mark m)).mp e)]; rfl)]
              have e2 : spotR rn S m P = none := by
                rw [e1]
                cases k' with
                | mark m' =>
                  simp only
                  rw [if_neg fun e => hk' (by rw [e])]
                | _ => rfl
              rw [e2] at q
              ktr_call "q4" ⟨t_readspot_6⟩
              exact q
        · have e3 : S[i]? = none := List.getElem?_eq_none (by omega)
          rw [e3] at e1
          have e4 : ∃ j : Nat, S.length ≤ j ∧ (Option.map Sl.val (findK kvs (.inr x))).getD (.val (.int (S.length : Nat))) = .val (.int (j : Nat)) := by
            cases hf : findK kvs (.inr x) with
            | none => exact ⟨S.length, Nat.le_refl _, rfl⟩
            | some d =>
              obtain ⟨j, h1, h2⟩ := nk.fnd x d hf
              rw [hn] at h1
              cases h1
              exact ⟨i, by omega, by rw [h2]; rfl⟩
          obtain ⟨j, h1, h2⟩ := e4
          rw [h2]
          exact (out j h1).resolve_right fun h => h e1
    · rw [if_pos (by rw [decide_eq_false hw]; rfl)]
      ktr_call "q4" ⟨t_readspot_4, vAG, capE⟩
      refine ag_hw (fun w => decide (p.word = w)) (fun w hw K k => hw_mk p w hw k) mvs none mvs_in fun s0 => ?_
      cases hb : (mvs.any fun w => decide (p.word = w)) with
      | true =>
        rw [if_neg (by decide), vNext_mk]
        obtain ⟨p', mo, hmo, hsp, hsz, w, es, he⟩ := w_move hb
        ktr_call "q4" ⟨t_readspot_3, t_readspot_2, he⟩
        refine ⟨bigl (by omega), ?_⟩
        rw [← he, show pl.map Pg.enc ++ [p.enc] = (pl ++ [p]).map Pg.enc from by simp]
        refine hk p'.size ⟨[some (.val p'.enc), some (.val (.str m)), some (.val (.tuple (S.map Kd.enc))), some (.obj 0), some (.obj 1), some (.obj 2), none, none], [some (.m kvs), some (.l ds), some (.l ((pl ++ [p]).map Pg.enc))]⟩ 3 [] (by omega) (Nat.le_refl _) ⟨p', pl ++ [p], mo :: ms, rfl, rfl, by rw [List.length_append, List.length_singleton]; omega, by rw [List.reverse_append]; exact .cons hmo hm, by rw [hs, hsp, List.append_assoc]; rfl⟩
      | false =>
        rw [if_pos (by decide)]
        ktr_call "q4" ⟨t_readspot_1⟩
        have e0 : spotR rn S m P = none := by
          obtain ⟨h1, h2⟩ := w_still hw hb
          unfold spotR
          rw [hs]
          generalize p.spine.1 = z at h2
          cases z <;> first | rfl | exact absurd rfl (h2 _)
        rw [e0] at q
        exact q
  · ktr_call "q4" ⟨t_readspot, t_readspot_14, t_readspot_13⟩
    refine while_invW (fun n e => e = ⟨[some (.val d), some (.val (.str m)), some (.val (.tuple (S.map Kd.enc))), some (.obj 0), some (.obj 1), some (.obj 2), none, none], [some (.m kvs), some (.l ds), some (.l [])]⟩) ?_ (m := 0) rfl
    rintro n e Nx rfl hk
    ktr_call "q4" "0"
    refine hw_junk "name" hd (by decide +kernel) ?_
    ktr_call "q4" ⟨t_readspot_4, vAG, capE⟩
    refine ag_hw (fun w => false) (fun w hw K k => hw_junk w hd hw k) mvs none mvs_in fun s0 => ?_
    rw [if_pos (by decide)]
    ktr_call "q4" ⟨t_readspot_1⟩
    exact q
def szMo : List Mo → Nat
  | [] => 0
  | .giv q :: r => q.size + szMo r
  | _ :: r => szMo r
theorem szMo_app : ∀ a b, szMo (a ++ b) = szMo a + szMo b
  | [], b => by simp [szMo]
  | .giv q :: a, b => by
    rw [List.cons_append, szMo, szMo, szMo_app a b]
    omega
  | .fst :: a, b => by
    rw [List.cons_append, szMo, szMo, szMo_app a b] <;> intro _ h <;> cases h
  | .snd :: a, b => by
    rw [List.cons_append, szMo, szMo, szMo_app a b] <;> intro _ h <;> cases h
def szAg : List (Kd × Pg) → Nat
  | [] => 0
  | x :: r => x.2.size + szAg r
theorem goK_sz : ∀ (ms : List Mo) {k k' : Kd} {w : Nat} {L : List (Kd × Pg)}, goK k ms = some (k', w, L) → szAg L ≤ szMo ms
  | [], k, k', w, L, e => by
    rw [goK_nil] at e
    cases e
    exact Nat.le_refl _
  | x :: ms, k, k', w, L, e => by
    cases k with
    | mark _ => cases x <;> cases e
    | one => cases x <;> cases e
    | to a b =>
      cases x with
      | giv q =>
        simp only [goK] at e
        obtain ⟨r, h1, h2⟩ := Option.map_eq_some_iff.mp e
        obtain ⟨k1, w1, L1⟩ := r
        cases h2
        have ih := goK_sz ms h1
        simp only [szAg, szMo]
        omega
      | _ => cases e
    | both a b =>
      cases x with
      | giv q => cases e
      | fst =>
        simp only [goK] at e
        exact goK_sz ms e
      | snd =>
        simp only [goK] at e
        obtain ⟨r, h1, h2⟩ := Option.map_eq_some_iff.mp e
        obtain ⟨k1, w1, L1⟩ := r
        cases h2
        exact goK_sz ms h1
theorem spine_sz : ∀ p : Pg, szMo p.spine.2 + 1 ≤ p.size
  | .name _ => by simp [Pg.spine, szMo, Pg.size]
  | .take _ _ _ => by simp only [Pg.spine, szMo, Pg.size]; omega
  | .pair _ _ => by simp only [Pg.spine, szMo, Pg.size]; omega
  | .thing => by simp [Pg.spine, szMo, Pg.size]
  | .first p => by
    have := spine_sz p
    simp only [Pg.spine, szMo_app, Pg.size]
    rw [show szMo [Mo.fst] = 0 from rfl]
    omega
  | .second p => by
    have := spine_sz p
    simp only [Pg.spine, szMo_app, Pg.size]
    rw [show szMo [Mo.snd] = 0 from rfl]
    omega
  | .give p q => by
    have := spine_sz p
    simp only [Pg.spine, szMo_app, Pg.size]
    rw [show szMo [Mo.giv q] = q.size from by simp [szMo]]
    omega
/-- the arguments of a spine keep what each part keeps -/
def ovM (M : List Str) : List Mo → Prop
  | [] => True
  | .giv q :: r => q.ov M ∧ ovM M r
  | _ :: r => ovM M r
theorem ovM_app {M : List Str} : ∀ a b, ovM M a → ovM M b → ovM M (a ++ b)
  | [], b, _, h => h
  | .giv q :: a, b, h, h2 => by
    simp only [List.cons_append, ovM] at h ⊢
    exact ⟨h.1, ovM_app a b h.2 h2⟩
  | .fst :: a, b, h, h2 => by
    simp only [List.cons_append, ovM] at h ⊢
    exact ovM_app a b h h2
  | .snd :: a, b, h, h2 => by
    simp only [List.cons_append, ovM] at h ⊢
    exact ovM_app a b h h2
theorem spine_ov {M : List Str} : ∀ p : Pg, p.ov M → ovM M p.spine.2
  | .name _, _ => trivial
  | .take _ _ _, _ => trivial
  | .pair _ _, _ => trivial
  | .thing, _ => trivial
  | .first p, h => ovM_app _ _ (spine_ov p h) trivial
  | .second p, h => ovM_app _ _ (spine_ov p h) trivial
  | .give p q, h => ovM_app _ _ (spine_ov p h.1) ⟨h.2, trivial⟩
theorem goK_ov {M : List Str} : ∀ (ms : List Mo) {k k' : Kd} {w : Nat} {L : List (Kd × Pg)}, ovM M ms → goK k ms = some (k', w, L) → ∀ x ∈ L, x.2.ov M
  | [], k, k', w, L, _, e => by
    rw [goK_nil] at e
    cases e
    exact fun x hx => by cases hx
  | x :: ms, k, k', w, L, h, e => by
    cases k with
    | mark _ => cases x <;> cases e
    | one => cases x <;> cases e
    | to a b =>
      cases x with
      | giv q =>
        simp only [goK] at e
        obtain ⟨r, h1, h2⟩ := Option.map_eq_some_iff.mp e
        obtain ⟨k1, w1, L1⟩ := r
        cases h2
        intro x hx
        rcases List.mem_cons.mp hx with rfl | hx
        · exact h.1
        · exact goK_ov ms h.2 h1 x hx
      | _ => cases e
    | both a b =>
      cases x with
      | giv q => cases e
      | fst =>
        simp only [goK] at e
        exact goK_ov ms h e
      | snd =>
        simp only [goK] at e
        obtain ⟨r, h1, h2⟩ := Option.map_eq_some_iff.mp e
        obtain ⟨k1, w1, L1⟩ := r
        cases h2
        exact goK_ov ms h h1
theorem szAg_mem {x : Kd × Pg} : ∀ {L : List (Kd × Pg)}, x ∈ L → x.2.size ≤ szAg L
  | y :: L, h => by
    simp only [szAg]
    rcases List.mem_cons.mp h with rfl | h
    · omega
    · have := szAg_mem h
      omega
def szE : List Ent → Nat
  | [] => 0
  | x :: r => x.2.1.size + szE r
theorem szE_app : ∀ a b, szE (a ++ b) = szE a + szE b
  | [], b => by simp [szE]
  | x :: a, b => by
    rw [List.cons_append, szE, szE, szE_app a b]
    omega
theorem szE_rev : ∀ a, szE a.reverse = szE a
  | [] => rfl
  | x :: a => by
    rw [List.reverse_cons, szE_app, szE_rev a, szE, szE, szE]
    omega
theorem szE_ents {S : List Kd} : ∀ L, szE (ents S L) = szAg L
  | [] => rfl
  | x :: L => by
    show x.2.size + szE (ents S L) = _
    rw [szE_ents L]
    rfl
theorem szE_len : ∀ a : List Ent, a.length ≤ szE a
  | [] => Nat.le_refl _
  | x :: a => by
    have := szE_len a
    have := x.2.1.size_pos
    simp only [szE, List.length_cons]
    omega
/-- what an entry keeps -/
structure EntOk (M : List Str) (n B : Nat) (x : Ent) : Prop where
  kd : kOk M x.1
  pg : x.2.1.ov M
  sc : ∀ k ∈ x.2.2, kOk M k
  le : n ≤ x.2.2.length
  sz : x.2.2.length + x.2.1.size ≤ B
theorem spot_ok {rn M : List Str} {n B : Nat} {S : List Kd} {m : Str} {p : Pg} {t : Nat × Nat × List (Kd × Pg)} (h : EntOk M n B (.mark m, p, S)) (e : spotR rn S m p = some t) : (∀ y ∈ ents S t.2.2, EntOk M n B y) ∧ szE (ents S t.2.2) + 1 ≤ p.size := by
  have e0 := e
  unfold spotR at e
  have h1 := spine_sz p
  have h2 := spine_ov p h.pg
  generalize p.spine = z at e h1 h2
  obtain ⟨hd, ms⟩ := z
  cases hd with
  | name x =>
    simp only at e
    obtain ⟨i, hi, e⟩ := Option.bind_eq_some_iff.mp e
    obtain ⟨k, hk, e⟩ := Option.bind_eq_some_iff.mp e
    obtain ⟨r, hg, e⟩ := Option.bind_eq_some_iff.mp e
    obtain ⟨k', w, L⟩ := r
    cases k' with
    | mark m' =>
      simp only at e
      split at e
      · cases e
        have g1 := goK_ok ms (h.sc k (List.mem_of_getElem? hk)) hg
        have g2 := goK_sz ms hg
        have g3 := goK_ov ms h2 hg
        simp only at h1
        have z1 : szE (ents S L) + 1 ≤ p.size := by rw [szE_ents]; omega
        refine ⟨fun y hy => ?_, z1⟩
        obtain ⟨x, hx, rfl⟩ := List.mem_map.mp hy
        have := szAg_mem (L := L) hx
        have hs := h.sz
        simp only at hs
        exact ⟨g1.2 x hx, g3 x hx, h.sc, h.le, by simp only; omega⟩
      · cases e
    | _ => cases e
  | _ => cases e
theorem frame_ok {M : List Str} {n B : Nat} {S : List Kd} {κ : Kd} {p : Pg} {es : List Ent} (h : EntOk M n B (κ, p, S)) (e : frame S n κ p = some es) : (∀ y ∈ es, EntOk M n B y) ∧ szE es + 1 ≤ p.size := by
  have hs := h.sz
  have hp := h.pg
  have hc := h.sc
  have hl := h.le
  have hk := h.kd
  simp only at hs hp hc hl hk
  cases κ with
  | mark m => cases p <;> cases e
  | one => cases p <;> first | (cases e; done) | (cases e; exact ⟨fun y hy => (by cases hy), by simp [szE, Pg.size]⟩)
  | both a b =>
    cases p <;> try (cases e; done)
    rename_i q r
    cases e
    simp only [Pg.size] at hs
    refine ⟨fun y hy => ?_, by simp only [szE, Pg.size]; omega⟩
    rcases List.mem_cons.mp hy with rfl | hy
    · exact ⟨hk.both.1, hp.1, hc, hl, by simp only; omega⟩
    · rw [List.mem_singleton.mp hy]
      exact ⟨hk.both.2, hp.2, hc, hl, by simp only; omega⟩
  | to a b =>
    cases p <;> try (cases e; done)
    rename_i x k q
    simp only [frame] at e
    split at e
    · cases e
      simp only [Pg.size] at hs
      refine ⟨fun y hy => ?_, by simp only [szE, Pg.size]; omega⟩
      rw [List.mem_singleton.mp hy]
      refine ⟨hk.to.2, hp.2, fun z hz => ?_, by simp only [List.length_append]; omega, by simp only [List.length_append, List.length_singleton]; omega⟩
      rcases List.mem_append.mp hz with hz | hz
      · exact hc z hz
      · rw [List.mem_singleton.mp hz]
        exact hk.to.1
    · cases e
theorem NumOk.mono {rn : List Str} {kvs : List (Ky × D)} {a b : Nat} (h : NumOk rn kvs b) (hl : a ≤ b) : NumOk rn kvs a := ⟨h.fnd, fun z i e hi => h.has z i e (by omega)⟩
theorem NumOk.put {rn : List Str} {kvs : List (Ky × D)} {N : Nat} (h : NumOk rn kvs N) {k : Nat} (hr : ∀ j, xN j ∉ rn) (hN : rn.length + k ≤ N) : NumOk rn (putM kvs (.inr (xN k)) (.int ((rn.length + k : Nat) : Int))) (max N (rn.length + k + 1)) := by
  refine ⟨fun z d e => ?_, fun z i e hi => ?_⟩
  · rw [putM_fnd] at e
    split at e
    · rename_i hz
      cases hz
      cases e
      exact ⟨_, nmAt_x (hr k), rfl⟩
    · exact h.fnd z d e
  · rw [putM_fnd]
    split
    · rename_i hz
      cases hz
      rw [nmAt_x (hr k)] at e
      cases e
      rfl
    · rename_i hz
      by_cases hi2 : i < N
      · exact h.has z i e hi2
      · exfalso
        have hi3 : i = rn.length + k := by omega
        subst hi3
        unfold nmAt at e
        split at e
        · rename_i hm
          have := List.idxOf_lt_length_of_mem hm
          injection e with e
          omega
        · split at e
          · rename_i hx
            have h1 := hx.choose_spec
            injection e with e
            apply hz
            rw [h1]
            congr 2
            omega
          · cases e
theorem putM_len {kvs : List (Ky × D)} {k : Ky} {d : D} : (putM kvs k d).length ≤ kvs.length + 1 := by
  unfold putM
  split
  · rw [List.length_map]
    omega
  · rw [List.length_append]
    exact Nat.le_refl _
def rowKvs (ns : List Str) (kvs : List (Ky × D)) : Prop := ∀ z, findK kvs (.inr z) = if z ∈ ns then some (.int ((ns.idxOf z : Nat) : Int)) else none
theorem rowKvs.ok {rn : List Str} {kvs : List (Ky × D)} (h : rowKvs rn kvs) : NumOk rn kvs rn.length := by
  refine ⟨fun z d e => ?_, fun z i e hi => ?_⟩
  · rw [h z] at e
    split at e
    · rename_i hz
      cases e
      exact ⟨_, nmAt_in hz, rfl⟩
    · cases e
  · rw [h z]
    by_cases hz : z ∈ rn
    · rw [nmAt_in hz] at e
      cases e
      rw [if_pos hz]
    · exfalso
      unfold nmAt at e
      rw [if_neg hz] at e
      split at e
      · injection e with e
        omega
      · cases e
theorem rowKvs.put {ns : List Str} {kvs : List (Ky × D)} (h : rowKvs ns kvs) {x : Str} (hx : x ∉ ns) : rowKvs (ns ++ [x]) (putM kvs (.inr x) (.int ((ns.length : Nat) : Int))) := by
  intro z
  rw [putM_fnd]
  by_cases hz : z = x
  · subst hz
    rw [if_pos rfl, if_pos (by simp), List.idxOf_append, if_neg hx]
    simp
  · rw [if_neg (by intro e; cases e; exact hz rfl), h z]
    by_cases hm : z ∈ ns
    · rw [if_pos hm, if_pos (by simp [hm]), List.idxOf_append, if_pos hm]
    · rw [if_neg hm, if_neg (by simp [hm, hz])]
def pSpots (M : List Str) : VSp := fun ss st Kp => ∃ (r : List (Str × Kd)) (κ : Kd), (r.map (·.1)).Nodup ∧ (∀ j, xN j ∉ r.map (·.1)) ∧ (∀ x ∈ r, kOk M x.2) ∧ r.length ≤ 1000 ∧ kOk M κ ∧ st = [] ∧ ((∃ p : Pg, p.ov M ∧ p.size ≤ 50000 ∧ ss = [.val (.list (r.map encB)), .val κ.enc, .val p.enc] ∧ (match spB (r.map (·.1)) p (r.map (·.2)) κ with
    | none => Kp (.val .none) []
    | some L => Kp (.obj 0) [.l (L.map encSpt)])) ∨ ∃ d : D, junkP d ∧ ss = [.val (.list (r.map encB)), .val κ.enc, .val d] ∧ Kp (.val .none) [])
/-- the first part: the numbers of the row -/
theorem spots_row {M : List Str} {r : List (Str × Kd)} {κ : Kd} {d : D} {Kp : Sl → List Ob → Prop} (nd : (r.map (·.1)).Nodup) (rl : r.length ≤ 1000)
    (h : ∀ kvs x y, rowKvs (r.map (·.1)) kvs → kvs.length = r.length → t_spotsof_14 (pSpot M) (pFr M) (dV 0 Kp) ⟨[some (.val (.list (r.map encB))), some (.val κ.enc), some (.val d), some (.obj 0), x, y, none, none, none, none, none], [some (.m kvs)]⟩) :
    t_spotsof (pSpot M) (pFr M) (dV 0 Kp) ⟨startV 11 [.val (.list (r.map encB)), .val κ.enc, .val d], []⟩ := by
  ktr_call "q4" ⟨t_spotsof, t_spotsof_16, t_spotsof_15, vDctM⟩
  refine fl_invW (chk := none) encB r (fun ys e => ∃ kvs x y, rowKvs (ys.map (·.1)) kvs ∧ kvs.length = ys.length ∧ e = ⟨[some (.val (.list (r.map encB))), some (.val κ.enc), some (.val d), some (.obj 0), x, y, none, none, none, none, none], [some (.m kvs)]⟩) (fun _ _ _ => trivial) ?_ ?_ ⟨[], none, none, fun z => by simp [findK], rfl, rfl⟩
  · rintro ys v zs e Nx hys ⟨kvs, x, y, rk, kl, rfl⟩ hk
    have hl : ys.length + (zs.length + 1) = r.length := by rw [hys, List.length_append, List.length_cons]
    ktr_call "q4" ⟨t_spotsof_1, encB, opLenM, xgDSub, dKey⟩
    refine ⟨Nat.lt_of_lt_of_le (by omega : kvs.length < 2000) (by decide), ?_⟩
    refine hk ⟨[some (.val (.list (r.map encB))), some (.val κ.enc), some (.val d), some (.obj 0), some (.val (.str v.1)), some (.val v.2.enc), none, none, none, none, none], [some (.m (putM kvs (.inr v.1) (.int ((kvs.length : Nat) : Int))))]⟩ 1 [] (Nat.le_refl _) ⟨putM kvs (.inr v.1) (.int ((kvs.length : Nat) : Int)), some (.val (.str v.1)), some (.val v.2.enc), ?_, ?_, rfl⟩
    · have hv : v.1 ∉ ys.map (·.1) := by
        rw [hys, List.map_append, List.map_cons, List.nodup_append] at nd
        exact fun h => nd.2.2 _ h _ List.mem_cons_self rfl
      have := rk.put hv
      rw [List.map_append, kl]
      rw [List.length_map] at this
      exact this
    · have hn : findK kvs (.inr v.1) = none := by
        have hv : v.1 ∉ ys.map (·.1) := by
          rw [hys, List.map_append, List.map_cons, List.nodup_append] at nd
          exact fun h => nd.2.2 _ h _ List.mem_cons_self rfl
        rw [rk, if_neg hv]
      unfold putM
      rw [if_neg (by rw [findK_any, hn]; decide), List.length_append, List.length_append, kl]
      rfl
  · rintro e ⟨kvs, x, y, rk, kl, rfl⟩
    exact h kvs x y rk kl
theorem szE_one (x : Ent) : szE [x] = x.2.1.size := by simp [szE]
theorem r_spots {M : List Str} (hM : okM M) {ss cs Kp} (h : pSpots M ss cs Kp) : t_spotsof (pSpot M) (pFr M) (dV cs.length Kp) ⟨startV 11 ss, cs.map some⟩ := by
  obtain ⟨r, κ, nd, hx, rk, rl, kk, rfl, h⟩ := h
  have rnl : (r.map (·.1)).length = r.length := by simp
  rcases h with ⟨p, po, ps, rfl, q⟩ | ⟨d, hd, rfl, q⟩
  · refine spots_row nd rl fun kvs0 x0 y0 hr hl => ?_
    ktr_call "q4" ⟨t_spotsof_14, t_spotsof_13⟩
    refine cl_mapE encB (fun (x : Str × Kd) => x.2.enc) r (big (by simp only [List.length_nil]; omega)) (fun v Kt hv hk' => ?_) ?_
    · ktr_call "q4" ⟨encB⟩
      exact hk' _ rfl
    ktr_call "q4" ⟨List.nil_append, t_spotsof_12⟩
    generalize hR : r.map (·.1) = rn at *
    rw [show r.map (fun x => x.2.enc) = (r.map (·.2)).map Kd.enc from by rw [List.map_map]; rfl]
    generalize hS : r.map (·.2) = S0 at *
    have S0l : S0.length = r.length := by rw [← hS, List.length_map]
    have eo0 : EntOk M r.length (r.length + p.size) (κ, p, S0) := ⟨kk, po, fun k hk => by
      rw [← hS] at hk
      obtain ⟨x, hx, rfl⟩ := List.mem_map.mp hk
      exact rk x hx, by simp only; omega, by simp only; omega⟩
    refine while_invW (fun n e => ∃ (todo : List Ent) (Ls : List Spt) (kvs : List (Ky × D)) (N : Nat) (x1 x8 x9 x10 : Option Sl), e = ⟨[some (.val (.list (r.map encB))), x1, some (.val p.enc), some (.obj 0), none, none, some (.obj 1), some (.obj 2), x8, x9, x10], [some (.m kvs), some (.l (Ls.map encSpt)), some (.l (todo.map encEnt))]⟩ ∧ n = szE todo ∧ (∀ t ∈ todo, EntOk M r.length (r.length + p.size) t ∧ t.2.2.length ≤ N) ∧ NumOk rn kvs N ∧ r.length ≤ N ∧ kvs.length + szE todo ≤ r.length + p.size ∧ Ls.length + szE todo ≤ p.size ∧ (seqE rn todo.reverse).map (fun y => Ls ++ y) = spB rn p S0 κ) ?_ (m := szE [(κ, p, S0)]) ⟨[(κ, p, S0)], [], kvs0, r.length, _, none, none, none, rfl, rfl, fun t ht => by
      rw [List.mem_singleton.mp ht]
      exact ⟨eo0, by simp only; omega⟩, by rw [← rnl]; exact hr.ok, Nat.le_refl _, by rw [szE_one]; simp only; omega, by rw [szE_one]; simp, by simp [seqE]⟩
    rintro n e Nx ⟨todo, Ls, kvs, N, x1, x8, x9, x10, rfl, rfl, ho, nk, rN, kl, ll, hq⟩ hk
    rcases List.eq_nil_or_concat todo with rfl | ⟨ts, ⟨k, p', S⟩, rfl⟩
    · ktr_call "q4" ⟨t_spotsof_11, List.isEmpty_nil, List.map_nil⟩
      simp only [List.reverse_nil, seqE, Option.map_some, List.append_nil] at hq
      rw [← hq] at q
      exact q
    · rw [List.concat_eq_append] at *
      obtain ⟨eo, eN⟩ := ho _ (List.mem_append_right _ List.mem_cons_self)
      have hts : ∀ t ∈ ts, EntOk M r.length (r.length + p.size) t ∧ t.2.2.length ≤ N := fun t ht => ho t (List.mem_append_left _ ht)
      have ne : ((ts ++ [(k, p', S)]).map encEnt).isEmpty = false := by simp
      have gl : ((ts ++ [(k, p', S)]).map encEnt).getLast? = some (encEnt (k, p', S)) := by simp
      have dl : ((ts ++ [(k, p', S)]).map encEnt).dropLast = ts.map encEnt := by simp
      have eS := eo.sz
      have pl := szE_len ts
      have ep := p'.size_pos
      rw [szE_app, szE_one] at kl ll
      rw [List.reverse_append, List.reverse_singleton, List.singleton_append, seqE] at hq
      simp only at eN eS kl ll
      have push : ∀ (es : List Ent) (Ls' : List Spt) (kvs' : List (Ky × D)) (N' : Nat) (x1 x8 x9 x10 : Option Sl), (∀ y ∈ es, EntOk M r.length (r.length + p.size) y ∧ y.2.2.length ≤ N') → N ≤ N' → NumOk rn kvs' N' → szE es + 1 ≤ p'.size → kvs'.length ≤ kvs.length + 1 → Ls'.length ≤ Ls.length + 1 → ((seqE rn es).bind fun x => (seqE rn ts.reverse).map fun y => Ls' ++ (x ++ y)) = spB rn p S0 κ → ts.length + (es.map encEnt).reverse.length ≤ sizeLine ∧ Nx ⟨[some (.val (.list (r.map encB))), x1, some (.val p.enc), some (.obj 0), none, none, some (.obj 1), some (.obj 2), x8, x9, x10], [some (.m kvs'), some (.l (Ls'.map encSpt)), some (.l (ts.map encEnt ++ (es.map encEnt).reverse))]⟩ := by
        intro es Ls' kvs' N' x1 x8 x9 x10 he hN hn hs hkl hll hh
        have el := szE_len es
        refine ⟨big (by rw [List.length_reverse, List.length_map]; omega), ?_⟩
        rw [show ts.map encEnt ++ (es.map encEnt).reverse = (ts ++ es.reverse).map encEnt from by rw [List.map_append, List.map_reverse]]
        refine hk (szE (ts ++ es.reverse)) ⟨[some (.val (.list (r.map encB))), x1, some (.val p.enc), some (.obj 0), none, none, some (.obj 1), some (.obj 2), x8, x9, x10], [some (.m kvs'), some (.l (Ls'.map encSpt)), some (.l ((ts ++ es.reverse).map encEnt))]⟩ 3 [1, 8, 9, 10] (by rw [szE_app, szE_app, szE_rev, szE_one]; simp only; omega) (Nat.le_refl _) ⟨ts ++ es.reverse, Ls', kvs', N', none, none, none, none, rfl, rfl, fun t ht => ?_, hn, by omega, by rw [szE_app, szE_rev]; omega, by rw [szE_app, szE_rev]; omega, ?_⟩
        · rcases List.mem_append.mp ht with ht | ht
          · obtain ⟨h1, h2⟩ := hts t ht
            exact ⟨h1, by omega⟩
          · exact he t (List.mem_reverse.mp ht)
        · rw [List.reverse_append, List.reverse_reverse, seqE_app, ← hh]
          cases seqE rn es with
          | none => rfl
          | some u =>
            simp only [Option.bind_some]
            cases seqE rn ts.reverse <;> simp
      ktr_call "q4" ⟨ne, gl, dl, t_spotsof_10⟩
      ktr_call "q4" ⟨encEnt, t_spotsof_9⟩
      have rS := eo.le
      simp only at rS
      cases k with
      | mark m =>
        have b1 : (!(1 : Nat) == 0) = true := rfl
        ktr_call "q4" ⟨Kd.enc, t_spotsof_2, b1⟩
        refine ⟨rn, m, S, N, kvs, Ls.map encSpt, eo.kd.1, eo.sc, eN, by omega, nk, by rw [List.length_map]; omega, rfl, .inl ⟨p', by omega, rfl, ?_⟩⟩
        rw [spB_spot] at hq
        cases ht : spotR rn S m p' with
        | none =>
          ktr_call "q4" ⟨t_spotsof_8⟩
          rw [vNext_mk]
          ktr_call "q4" ⟨t_spotsof_7, t_spotsof_5⟩
          rw [ht] at hq
          simp only [Option.bind_none, Option.map_none] at hq
          rw [← hq] at q
          exact q
        | some t =>
          obtain ⟨eok, esz⟩ := spot_ok eo ht
          ktr_call "q4" ⟨t_spotsof_8⟩
          rw [vNext_mk]
          ktr_call "q4" ⟨t_spotsof_7⟩
          rw [vNext_mk]
          ktr_call "q4" ⟨t_spotsof_6⟩
          rw [show Ls.map encSpt ++ [encSpt ⟨S, t.1, t.2.1, m⟩] = (Ls ++ [(⟨S, t.1, t.2.1, m⟩ : Spt)]).map encSpt from by simp]
          refine push (ents S t.2.2) (Ls ++ [⟨S, t.1, t.2.1, m⟩]) kvs N _ _ _ _ (fun y hy => ⟨eok y hy, ?_⟩) (Nat.le_refl _) nk esz (by omega) (by simp) ?_
          · obtain ⟨x, hx, rfl⟩ := List.mem_map.mp hy
            exact eN
          · rw [← hq, ht, Option.bind_some]
            cases seqE rn (ents S t.2.2) with
            | none => rfl
            | some u =>
              simp only [Option.map_some, Option.bind_some]
              cases seqE rn ts.reverse <;> simp
      | one =>
        ktr_call "q4" ⟨Kd.enc, t_spotsof_3⟩
        rw [spB_frame (κ := .one) trivial, rnl] at hq
        refine ⟨.one, S, r.length, trivial, eo.kd, rS, by omega, rfl, .inl ⟨p', eo.pg, rfl, ?_⟩⟩
        cases hf : frame S r.length .one p' with
        | none =>
          ktr_call "q4" ⟨encIn, t_spotsof_8⟩
          rw [vNext_mk]
          ktr_call "q4" ⟨t_spotsof_7, t_spotsof_5⟩
          rw [hf] at hq
          simp only [Option.bind_none, Option.map_none] at hq
          rw [← hq] at q
          exact q
        | some es =>
          obtain ⟨eok, esz⟩ := frame_ok eo hf
          ktr_call "q4" ⟨encIn, t_spotsof_8⟩
          rw [vNext_mk]
          ktr_call "q4" ⟨t_spotsof_7⟩
          rw [vNext_mk]
          ktr_call "q4" ⟨t_spotsof_6⟩
          refine push es Ls kvs N _ _ _ _ (fun y hy => ⟨eok y hy, ?_⟩) (Nat.le_refl _) nk esz (by omega) (by omega) ?_
          · cases p' <;> cases hf
            cases hy
          · rw [← hq, hf, Option.bind_some]
            cases seqE rn es with
            | none => rfl
            | some u =>
              simp only [Option.bind_some]
              cases seqE rn ts.reverse <;> simp
      | both a b =>
        ktr_call "q4" ⟨Kd.enc, t_spotsof_3⟩
        rw [spB_frame (κ := .both a b) trivial, rnl] at hq
        refine ⟨.both a b, S, r.length, trivial, eo.kd, rS, by omega, rfl, .inl ⟨p', eo.pg, rfl, ?_⟩⟩
        cases hf : frame S r.length (.both a b) p' with
        | none =>
          ktr_call "q4" ⟨encIn, t_spotsof_8⟩
          rw [vNext_mk]
          ktr_call "q4" ⟨t_spotsof_7, t_spotsof_5⟩
          rw [hf] at hq
          simp only [Option.bind_none, Option.map_none] at hq
          rw [← hq] at q
          exact q
        | some es =>
          obtain ⟨eok, esz⟩ := frame_ok eo hf
          ktr_call "q4" ⟨encIn, t_spotsof_8⟩
          rw [vNext_mk]
          ktr_call "q4" ⟨t_spotsof_7⟩
          rw [vNext_mk]
          ktr_call "q4" ⟨t_spotsof_6⟩
          refine push es Ls kvs N _ _ _ _ (fun y hy => ⟨eok y hy, ?_⟩) (Nat.le_refl _) nk esz (by omega) (by omega) ?_
          · cases p' <;> cases hf
            rcases List.mem_cons.mp hy with rfl | hy
            · exact eN
            · rw [List.mem_singleton.mp hy]
              exact eN
          · rw [← hq, hf, Option.bind_some]
            cases seqE rn es with
            | none => rfl
            | some u =>
              simp only [Option.bind_some]
              cases seqE rn ts.reverse <;> simp
      | to a b =>
        ktr_call "q4" ⟨Kd.enc, t_spotsof_3⟩
        rw [spB_frame (κ := .to a b) trivial, rnl] at hq
        refine ⟨.to a b, S, r.length, trivial, eo.kd, rS, by omega, rfl, .inl ⟨p', eo.pg, rfl, ?_⟩⟩
        have ei : ((S.length : Nat) : Int) - ((r.length : Nat) : Int) = ((S.length - r.length : Nat) : Int) := by omega
        cases hf : frame S r.length (.to a b) p' with
        | none =>
          ktr_call "q4" ⟨encIn, t_spotsof_8, t_spotsof_4, xgDSub, vJoinC, vFmt, dKey⟩
          rw [ei]
          refine ⟨lgx, lg (by omega), lgs (by omega), Nat.lt_of_lt_of_le (by omega : kvs.length < 60000) (by decide), ?_⟩
          ktr_call "q4" ⟨t_spotsof_7, t_spotsof_5⟩
          rw [hf] at hq
          simp only [Option.bind_none, Option.map_none] at hq
          rw [← hq] at q
          exact q
        | some es =>
          obtain ⟨eok, esz⟩ := frame_ok eo hf
          ktr_call "q4" ⟨encIn, t_spotsof_8, t_spotsof_4, xgDSub, vJoinC, vFmt, dKey⟩
          rw [ei]
          refine ⟨lgx, lg (by omega), lgs (by omega), Nat.lt_of_lt_of_le (by omega : kvs.length < 60000) (by decide), ?_⟩
          ktr_call "q4" ⟨t_spotsof_7⟩
          rw [vNext_mk]
          ktr_call "q4" ⟨t_spotsof_6⟩
          have nk2 := nk.put hx (k := S.length - r.length) (by omega)
          rw [show rn.length + (S.length - r.length) = S.length from by omega] at nk2
          refine push es Ls (putM kvs (.inr (xN (S.length - r.length))) (.int ((S.length : Nat) : Int))) (max N (S.length + 1)) _ _ _ _ (fun y hy => ⟨eok y hy, ?_⟩) (by omega) nk2 esz putM_len (by omega) ?_
          · cases p' <;> try (cases hf; done)
            simp only [frame] at hf
            split at hf
            · cases hf
              rw [List.mem_singleton.mp hy]
              simp only [List.length_append, List.length_singleton]
              omega
            · cases hf
          · rw [← hq, hf, Option.bind_some]
            cases seqE rn es with
            | none => rfl
            | some u =>
              simp only [Option.bind_some]
              cases seqE rn ts.reverse <;> simp
  · refine spots_row nd rl fun kvs0 x0 y0 hr hl => ?_
    ktr_call "q4" ⟨t_spotsof_14, t_spotsof_13⟩
    refine cl_mapE encB (fun (x : Str × Kd) => x.2.enc) r (big (by simp only [List.length_nil]; omega)) (fun v Kt hv hk' => ?_) ?_
    · ktr_call "q4" ⟨encB⟩
      exact hk' _ rfl
    ktr_call "q4" ⟨List.nil_append, t_spotsof_12⟩
    rw [show r.map (fun x => x.2.enc) = (r.map (·.2)).map Kd.enc from by rw [List.map_map]; rfl]
    refine while_invW (fun n e => e = ⟨[some (.val (.list (r.map encB))), some (.val κ.enc), some (.val d), some (.obj 0), none, none, some (.obj 1), some (.obj 2), none, none, none], [some (.m kvs0), some (.l []), some (.l [.tuple [κ.enc, d, .tuple ((r.map (·.2)).map Kd.enc)]])]⟩) ?_ (m := 0) rfl
    rintro n e Nx rfl hk
    have S0l : (r.map (·.2)).length = r.length := by simp
    have ei : (((r.map (·.2)).length : Nat) : Int) - ((r.length : Nat) : Int) = ((0 : Nat) : Int) := by omega
    generalize hS : r.map (·.2) = S0 at *
    have sk : ∀ k ∈ S0, kOk M k := fun k hk => by
      rw [← hS] at hk
      obtain ⟨x, hx, rfl⟩ := List.mem_map.mp hk
      exact rk x hx
    ktr_call "q4" ⟨t_spotsof_10, List.isEmpty_cons, List.getLast?_singleton, List.dropLast_singleton⟩
    ktr_call "q4" ⟨t_spotsof_9⟩
    cases κ with
    | mark m =>
      have b1 : (!(1 : Nat) == 0) = true := rfl
      ktr_call "q4" ⟨Kd.enc, t_spotsof_2, b1⟩
      refine ⟨r.map (·.1), m, S0, r.length, kvs0, [], kk.1, sk, by omega, by omega, by rw [← rnl]; exact hr.ok, by simp, rfl, .inr ⟨d, hd, rfl, ?_⟩⟩
      ktr_call "q4" ⟨t_spotsof_8⟩
      rw [vNext_mk]
      ktr_call "q4" ⟨t_spotsof_7, t_spotsof_5⟩
      exact q
    | one =>
      ktr_call "q4" ⟨Kd.enc, t_spotsof_3⟩
      refine ⟨.one, S0, r.length, trivial, kk, by omega, by omega, rfl, .inr ⟨d, hd, rfl, ?_⟩⟩
      ktr_call "q4" ⟨t_spotsof_8⟩
      rw [vNext_mk]
      ktr_call "q4" ⟨t_spotsof_7, t_spotsof_5⟩
      exact q
    | both a b =>
      ktr_call "q4" ⟨Kd.enc, t_spotsof_3⟩
      refine ⟨.both a b, S0, r.length, trivial, kk, by omega, by omega, rfl, .inr ⟨d, hd, rfl, ?_⟩⟩
      ktr_call "q4" ⟨t_spotsof_8⟩
      rw [vNext_mk]
      ktr_call "q4" ⟨t_spotsof_7, t_spotsof_5⟩
      exact q
    | to a b =>
      ktr_call "q4" ⟨Kd.enc, t_spotsof_3⟩
      refine ⟨.to a b, S0, r.length, trivial, kk, by omega, by omega, rfl, .inr ⟨d, hd, rfl, ?_⟩⟩
      ktr_call "q4" ⟨t_spotsof_8, t_spotsof_4, xgDSub, vJoinC, vFmt, dKey⟩
      rw [ei]
      refine ⟨lgx, lg (by omega), lgs (by omega), Nat.lt_of_lt_of_le (by omega : kvs0.length < 60000) (by decide), ?_⟩
      ktr_call "q4" ⟨t_spotsof_7, t_spotsof_5⟩
      exact q
abbrev Mk := List Nat × Str
def lkM (ms : List Mk) (a : List Int) : Option Str := (ms.find? fun x => decide (toI x.1 = a)).map (·.2)
structure RowOk (M : List Str) (r : List (Str × Kd)) : Prop where
  nd : (r.map (·.1)).Nodup
  nx : ∀ j, xN j ∉ r.map (·.1)
  kd : ∀ x ∈ r, kOk M x.2
  len : r.length ≤ 1000
def tkn : Nat → List Kd → List (Str × Kd)
  | _, [] => []
  | i, k :: T => (xN i, k) :: tkn (i + 1) T
def kwn (r : List (Str × Kd)) (T : List Kd) : List (Str × Kd) := r ++ tkn 0 T
theorem tkn_snoc (a : Kd) : ∀ (T : List Kd) (i : Nat), tkn i (T ++ [a]) = tkn i T ++ [(xN (i + T.length), a)]
  | [], i => rfl
  | k :: T, i => by
    simp only [List.cons_append, tkn, tkn_snoc a T (i + 1), List.length_cons]
    rw [show i + 1 + T.length = i + (T.length + 1) by omega]
theorem kwn_snoc (r : List (Str × Kd)) (T : List Kd) (a : Kd) : kwn r (T ++ [a]) = kwn r T ++ [(xN T.length, a)] := by
  unfold kwn
  rw [tkn_snoc, List.append_assoc, Nat.zero_add]
theorem tkn_len : ∀ (T : List Kd) (i : Nat), (tkn i T).length = T.length
  | [], _ => rfl
  | k :: T, i => by rw [tkn, List.length_cons, List.length_cons, tkn_len T]
theorem kwn_len (r : List (Str × Kd)) (T : List Kd) : (kwn r T).length = r.length + T.length := by
  unfold kwn
  rw [List.length_append, tkn_len]
theorem tkn_mem {x : Str} {k : Kd} : ∀ {T : List Kd} {i : Nat}, (x, k) ∈ tkn i T → ∃ j, T[j]? = some k ∧ x = xN (i + j)
  | a :: T, i, h => by
    rcases List.mem_cons.mp h with h | h
    · cases h
      exact ⟨0, rfl, rfl⟩
    · obtain ⟨j, h1, h2⟩ := tkn_mem h
      exact ⟨j + 1, by simpa using h1, by rw [h2]; congr 1; omega⟩
theorem tkn_names : ∀ (T : List Kd) (i : Nat), ((tkn i T).map (·.1)).Nodup
  | [], _ => List.nodup_nil
  | k :: T, i => by
    rw [tkn, List.map_cons, List.nodup_cons]
    refine ⟨fun h => ?_, tkn_names T (i + 1)⟩
    obtain ⟨⟨x, k'⟩, h1, h2⟩ := List.mem_map.mp h
    obtain ⟨j, _, h3⟩ := tkn_mem h1
    simp only at h2
    rw [h2] at h3
    have := xN_ne h3
    omega
theorem kwn_names {M : List Str} {r : List (Str × Kd)} (ro : RowOk M r) (T : List Kd) : ((kwn r T).map (·.1)).Nodup := by
  unfold kwn
  rw [List.map_append, List.nodup_append]
  refine ⟨ro.nd, tkn_names T 0, fun a ha b hb e => ?_⟩
  obtain ⟨⟨x, k'⟩, h1, h2⟩ := List.mem_map.mp hb
  obtain ⟨j, _, h3⟩ := tkn_mem h1
  simp only at h2
  rw [e, ← h2, h3] at ha
  exact ro.nx _ ha
theorem filter_onek {x : Str} {k : Kd} : ∀ {l : List (Str × Kd)}, (l.map (·.1)).Nodup → (x, k) ∈ l → l.filter (fun y => decide (y.1 = x)) = [(x, k)]
  | y :: l, nd, h => by
    rw [List.map_cons, List.nodup_cons] at nd
    rcases List.mem_cons.mp h with h | h
    · subst h
      rw [List.filter_cons_of_pos (by simp)]
      congr 1
      rw [List.filter_eq_nil_iff]
      intro z hz hd
      exact nd.1 (List.mem_map.mpr ⟨z, hz, of_decide_eq_true hd⟩)
    · have hne : ¬ y.1 = x := fun e => nd.1 (List.mem_map.mpr ⟨(x, k), h, e.symm⟩)
      rw [List.filter_cons_of_neg (by simpa using hne)]
      exact filter_onek nd.2 h
theorem kwn_at {M : List Str} {r : List (Str × Kd)} (ro : RowOk M r) {T : List Kd} {x : Str} {k : Kd} (h : (x, k) ∈ kwn r T) : ∃ i, nmAt (r.map (·.1)) x = some i ∧ (r.map (·.2) ++ T)[i]? = some k := by
  unfold kwn at h
  rcases List.mem_append.mp h with h | h
  · have hx : x ∈ r.map (·.1) := List.mem_map.mpr ⟨_, h, rfl⟩
    refine ⟨_, nmAt_in hx, ?_⟩
    obtain ⟨j, hj⟩ := List.getElem?_of_mem h
    have hjl : j < r.length := (List.getElem?_eq_some_iff.mp hj).1
    have e : (r.map (·.1)).idxOf x = j := by
      have hj2 : (r.map (·.1))[j]? = some x := by rw [List.getElem?_map, hj]; rfl
      obtain ⟨hl, he⟩ := List.getElem?_eq_some_iff.mp hj2
      rw [← he]
      exact ro.nd.idxOf_getElem j hl
    rw [e, List.getElem?_append_left (by rw [List.length_map]; exact hjl), List.getElem?_map, hj]
    rfl
  · obtain ⟨j, h1, h2⟩ := tkn_mem h
    rw [Nat.zero_add] at h2
    subst h2
    refine ⟨_, nmAt_x (ro.nx j), ?_⟩
    rw [List.length_map, List.getElem?_append_right (by rw [List.length_map]; omega), List.length_map, show r.length + j - r.length = j by omega]
    exact h1
def sh (i : Nat) (ms : List Mk) : List Mk := ms.map fun x => (i :: x.1, x.2)
inductive Lg (r : List (Str × Kd)) : Bool → List Kd → Kd → Pg → List Mk → Prop
  | nm {T : List Kd} {x : Str} {k : Kd} : (x, k) ∈ kwn r T → Lg r true T k (.name x) []
  | fs {T : List Kd} {a b : Kd} {q : Pg} {ms : List Mk} : Lg r true T (.both a b) q ms → Lg r true T a (.first q) (sh 0 ms)
  | sn {T : List Kd} {a b : Kd} {q : Pg} {ms : List Mk} : Lg r true T (.both a b) q ms → Lg r true T b (.second q) (sh 0 ms)
  | gv {T : List Kd} {a b : Kd} {q p : Pg} {ms ns : List Mk} : Lg r true T (.to a b) q ms → Lg r false T a p ns → Lg r true T b (.give q p) (sh 0 ms ++ sh 1 ns)
  | mk {T : List Kd} {m : Str} {p : Pg} {ms : List Mk} : Lg r true T (.mark m) p ms → Lg r false T (.mark m) p (([], m) :: ms)
  | on {T : List Kd} : Lg r false T .one .thing []
  | bo {T : List Kd} {a b : Kd} {q p : Pg} {ms ns : List Mk} : Lg r false T a q ms → Lg r false T b p ns → Lg r false T (.both a b) (.pair q p) (sh 0 ms ++ sh 1 ns)
  | ta {T : List Kd} {a b : Kd} {q : Pg} {ms : List Mk} : kdOk a → Lg r false (T ++ [a]) b q ms → Lg r false T (.to a b) (.take (xN T.length) a q) (sh 0 ms)
def t_Lways_1 (p_Lways : VSp) : VTS := (vRet (vN opLst vNil))
def t_Lways_2 (p_Lways : VSp) : VTS := (vRet (vN opLst (vCons (vN opTup (vCons (vN opLst vNil) (vCons (v2 xIx (vVar 0) (vC (.int 1))) vNil))) vNil)))
def t_Lways_3 (p_Lways : VSp) : VTS := (vRet (vLcK (vSeqI (vN (opCallK ownD p_Lways) (vCons (v2 xIx (vVar 0) (vC (.int 2))) vNil))) (vgTup 2 (vgCons (vgName 2) (vgCons (vgName 3) vgNil))) vYes (vN opTup (vCons (v2 opAdd (vN opLst (vCons (v2 xIx (vVar 0) (vC (.int 1))) vNil)) (vVar 2)) (vCons (vVar 3) vNil))) [2, 3] finD))
def t_Lways_4 (p_Lways : VSp) : VTS := (vRet (v2 opAdd (vVar 1) (vLcK (vSeqI (vN (opCallK ownD p_Lways) (vCons (v2 xIx (vVar 0) (vC (.int 2))) vNil))) (vgTup 2 (vgCons (vgName 2) (vgCons (vgName 3) vgNil))) vYes (vN opTup (vCons (v2 opAdd (vN opLst (vCons (vC (.int 2)) vNil)) (vVar 2)) (vCons (vVar 3) vNil))) [2, 3] finD)))
def t_Lways_5 (p_Lways : VSp) : VTS := vSeq (vSet 1 (vLcK (vSeqI (vN (opCallK ownD p_Lways) (vCons (v2 xIx (vVar 0) (vC (.int 1))) vNil))) (vgTup 2 (vgCons (vgName 2) (vgCons (vgName 3) vgNil))) vYes (vN opTup (vCons (v2 opAdd (vN opLst (vCons (vC (.int 1)) vNil)) (vVar 2)) (vCons (vVar 3) vNil))) [2, 3] finD)) (t_Lways_4 p_Lways)
def t_Lways_6 (p_Lways : VSp) : VTS := vSeq (vIfS (vTest (v2 (xEq false) (v2 xIx (vVar 0) (vC (.int 0))) (vC (.str "to")))) (t_Lways_3 p_Lways) vNext) (t_Lways_5 p_Lways)
def t_Lways_7 (p_Lways : VSp) : VTS := vSeq (vIfS (vTest (v2 (xEq false) (vN opLen (vCons (vVar 0) vNil)) (vC (.int 2)))) (t_Lways_2 p_Lways) vNext) (t_Lways_6 p_Lways)
def t_Lways_8 (p_Lways : VSp) : VTS := vSeq (vIfS (vTest (v2 (xEq false) (vN opLen (vCons (vVar 0) vNil)) (vC (.int 1)))) (t_Lways_1 p_Lways) vNext) (t_Lways_7 p_Lways)
def t_Lways (p_Lways : VSp) : VTS := (t_Lways_8 p_Lways)
def t_Llonged_1 (p_Llonged p_Lways p_Ltake : VSp) : VTS := (vRet (vN opTup (vCons (vC (.str "thing")) vNil)))
def t_Llonged_2 (p_Llonged p_Lways p_Ltake : VSp) : VTS := (vRet (vN opTup (vCons (vC (.str "pair")) (vCons (vN (opCallK ownD p_Llonged) (vCons (vVar 0) (vCons (vVar 1) (vCons (v2 xIx (vVar 2) (vC (.int 1))) (vCons (vVar 3) vNil))))) (vCons (vN (opCallK ownD p_Llonged) (vCons (vVar 0) (vCons (vVar 1) (vCons (v2 xIx (vVar 2) (vC (.int 2))) (vCons (vVar 3) vNil))))) vNil)))))
def t_Llonged_3 (p_Llonged p_Lways p_Ltake : VSp) : VTS := (vRet (vN opTup (vCons (vC (.str "take")) (vCons (vVar 6) (vCons (v2 xIx (vVar 2) (vC (.int 1))) (vCons (vN (opCallK ownD p_Llonged) (vCons (vVar 0) (vCons (v2 opAdd (vVar 1) (vN opLst (vCons (vN opTup (vCons (vVar 6) (vCons (v2 xIx (vVar 2) (vC (.int 1))) vNil))) vNil))) (vCons (v2 xIx (vVar 2) (vC (.int 2))) (vCons (vN opTup (vCons (v2 opAdd (vVar 4) (vC (.int 1))) (vCons (vVar 5) vNil))) vNil))))) vNil))))))
def t_Llonged_4 (p_Llonged p_Lways p_Ltake : VSp) : VTS := vSeq (vSet 6 (v2 opAdd (vC (.str "x")) (vN opStr (vCons (vVar 4) vNil)))) (t_Llonged_3 p_Llonged p_Lways p_Ltake)
def t_Llonged_5 (p_Llonged p_Lways p_Ltake : VSp) : VTS := (vSet 7 (v2 opAdd (vVar 7) (vLcK (vSeqI (vN (opCallK ownD p_Lways) (vCons (vVar 8) vNil))) (vgTup 2 (vgCons (vgName 9) (vgCons (vgName 12) vgNil))) (vTest (v2 (xEq false) (vVar 12) (v2 xIx (vVar 2) (vC (.int 1))))) (vN opTup (vCons (vVar 6) (vCons (vVar 9) vNil))) [9, 12] finD)))
def t_Llonged_6 (p_Llonged p_Lways p_Ltake : VSp) : VTS := (vSet 7 (vLcK (vSeqI (vVar 7)) (vgName 8) (vTest (v2 (xEq false) (v2 xIx (vVar 8) (vC (.int 1))) (vN opLst vNil))) (vVar 8) [8] finD))
def t_Llonged_7 (p_Llonged p_Lways p_Ltake : VSp) : VTS := (vSet 10 (vN opTup (vCons (v2 xIx (vN opLst (vCons (vC (.str "first")) (vCons (vC (.str "second")) vNil))) (v2 opSub (vVar 11) (vC (.int 1)))) (vCons (vVar 10) vNil))))
def t_Llonged_8 (p_Llonged p_Lways p_Ltake : VSp) : VTS := (vSet 10 (vN opTup (vCons (vC (.str "give")) (vCons (vVar 10) (vCons (vN (opCallK ownD p_Llonged) (vCons (vVar 0) (vCons (vVar 1) (vCons (vVar 11) (vCons (vN opTup (vCons (vVar 4) (vCons (v2 opSub (vVar 5) (vC (.int 1))) vNil))) vNil))))) vNil)))))
def t_Llonged_9 (p_Llonged p_Lways p_Ltake : VSp) : VTS := (vIfS (vOrT (vTest (v2 (xEq false) (vVar 11) (vC (.int 1)))) (vTest (v2 (xEq false) (vVar 11) (vC (.int 2))))) (t_Llonged_7 p_Llonged p_Lways p_Ltake) (t_Llonged_8 p_Llonged p_Lways p_Ltake))
def t_Llonged_10 (p_Llonged p_Lways p_Ltake : VSp) : VTS := (vRet (vVar 10))
def t_Llonged_11 (p_Llonged p_Lways p_Ltake : VSp) : VTS := vSeq (vForW (vSeqI (vVar 9)) (vgName 11)
      (t_Llonged_9 p_Llonged p_Lways p_Ltake)) (t_Llonged_10 p_Llonged p_Lways p_Ltake)
def t_Llonged_12 (p_Llonged p_Lways p_Ltake : VSp) : VTS := vSeq (vSet 10 (vN opTup (vCons (vC (.str "name")) (vCons (vVar 6) vNil)))) (t_Llonged_11 p_Llonged p_Lways p_Ltake)
def t_Llonged_13 (p_Llonged p_Lways p_Ltake : VSp) : VTS := vSeq (vAsg (v2 xIx (vVar 7) (vN (opCallK ownD p_Ltake) (vCons (vVar 0) (vCons (vN opLen (vCons (vVar 7) vNil)) vNil)))) (vgTup 2 (vgCons (vgName 6) (vgCons (vgName 9) vgNil)))) (t_Llonged_12 p_Llonged p_Lways p_Ltake)
def t_Llonged_14 (p_Llonged p_Lways p_Ltake : VSp) : VTS := vSeq (vIfS (vTest (v2 opLt (vVar 5) (vC (.int 1)))) (t_Llonged_6 p_Llonged p_Lways p_Ltake) vNext) (t_Llonged_13 p_Llonged p_Lways p_Ltake)
def t_Llonged_15 (p_Llonged p_Lways p_Ltake : VSp) : VTS := vSeq (vForW (vSeqI (vVar 1)) (vgTup 2 (vgCons (vgName 6) (vgCons (vgName 8) vgNil)))
      (t_Llonged_5 p_Llonged p_Lways p_Ltake)) (t_Llonged_14 p_Llonged p_Lways p_Ltake)
def t_Llonged_16 (p_Llonged p_Lways p_Ltake : VSp) : VTS := vSeq (vSet 7 (vN opLst vNil)) (t_Llonged_15 p_Llonged p_Lways p_Ltake)
def t_Llonged_17 (p_Llonged p_Lways p_Ltake : VSp) : VTS := vSeq (vIfS (vTest (v2 (xEq false) (v2 xIx (vVar 2) (vC (.int 0))) (vC (.str "to")))) (t_Llonged_4 p_Llonged p_Lways p_Ltake) vNext) (t_Llonged_16 p_Llonged p_Lways p_Ltake)
def t_Llonged_18 (p_Llonged p_Lways p_Ltake : VSp) : VTS := vSeq (vIfS (vTest (v2 (xEq false) (v2 xIx (vVar 2) (vC (.int 0))) (vC (.str "both")))) (t_Llonged_2 p_Llonged p_Lways p_Ltake) vNext) (t_Llonged_17 p_Llonged p_Lways p_Ltake)
def t_Llonged_19 (p_Llonged p_Lways p_Ltake : VSp) : VTS := vSeq (vIfS (vTest (v2 (xEq false) (v2 xIx (vVar 2) (vC (.int 0))) (vC (.str "one")))) (t_Llonged_1 p_Llonged p_Lways p_Ltake) vNext) (t_Llonged_18 p_Llonged p_Lways p_Ltake)
def t_Llonged_20 (p_Llonged p_Lways p_Ltake : VSp) : VTS := vSeq (vAsg (vVar 3) (vgTup 2 (vgCons (vgName 4) (vgCons (vgName 5) vgNil)))) (t_Llonged_19 p_Llonged p_Lways p_Ltake)
def t_Llonged (p_Llonged p_Lways p_Ltake : VSp) : VTS := (t_Llonged_20 p_Llonged p_Lways p_Ltake)
def t_Lislong_1 (p_Lalong p_Lislong : VSp) : VTS := (vRet (v2 (xEq false) (vVar 2) (vN opTup (vCons (vC (.str "thing")) vNil))))
def t_Lislong_2 (p_Lalong p_Lislong : VSp) : VTS := (vRet (v2 (xEq false) (vN (opCallK ownD p_Lalong) (vCons (vVar 0) (vCons (vVar 2) (vCons (vVar 3) vNil)))) (vVar 1)))
def t_Lislong_3 (p_Lalong p_Lislong : VSp) : VTS := (vRet (vC (.bool false)))
def t_Lislong_4 (p_Lalong p_Lislong : VSp) : VTS := (vRet (vN (opCallK ownD p_Lislong) (vCons (vVar 0) (vCons (v2 xIx (vVar 1) (vC (.int 2))) (vCons (v2 xIx (vVar 2) (vC (.int 2))) (vCons (vVar 3) vNil))))))
def t_Lislong_5 (p_Lalong p_Lislong : VSp) : VTS := vSeq (vIfS (vOrT (vTest (v2 (xEq true) (v2 xIx (vVar 2) (vC (.int 0))) (vC (.str "pair")))) (vNotT (vTruth (vN (opCallK ownD p_Lislong) (vCons (vVar 0) (vCons (v2 xIx (vVar 1) (vC (.int 1))) (vCons (v2 xIx (vVar 2) (vC (.int 1))) (vCons (vVar 3) vNil)))))))) (t_Lislong_3 p_Lalong p_Lislong) vNext) (t_Lislong_4 p_Lalong p_Lislong)
def t_Lislong_6 (p_Lalong p_Lislong : VSp) : VTS := (vRet (vC (.bool false)))
def t_Lislong_7 (p_Lalong p_Lislong : VSp) : VTS := (vRet (vN (opCallK ownD p_Lislong) (vCons (v2 opAdd (vVar 0) (vN opLst (vCons (vN opTup (vCons (vVar 4) (vCons (v2 xIx (vVar 1) (vC (.int 1))) vNil))) vNil))) (vCons (v2 xIx (vVar 1) (vC (.int 2))) (vCons (v2 xIx (vVar 2) (vC (.int 3))) (vCons (v2 opAdd (vVar 3) (vC (.int 1))) vNil))))))
def t_Lislong_8 (p_Lalong p_Lislong : VSp) : VTS := vSeq (vIfS (vTest (v2 (xEq true) (vSl opSl (vVar 2) vNoPart (vPart (vC (.int 3)))) (vN opTup (vCons (vC (.str "take")) (vCons (vVar 4) (vCons (v2 xIx (vVar 1) (vC (.int 1))) vNil)))))) (t_Lislong_6 p_Lalong p_Lislong) vNext) (t_Lislong_7 p_Lalong p_Lislong)
def t_Lislong_9 (p_Lalong p_Lislong : VSp) : VTS := vSeq (vSet 4 (v2 opAdd (vC (.str "x")) (vN opStr (vCons (vVar 3) vNil)))) (t_Lislong_8 p_Lalong p_Lislong)
def t_Lislong_10 (p_Lalong p_Lislong : VSp) : VTS := vSeq (vIfS (vTest (v2 (xEq false) (v2 xIx (vVar 1) (vC (.int 0))) (vC (.str "both")))) (t_Lislong_5 p_Lalong p_Lislong) vNext) (t_Lislong_9 p_Lalong p_Lislong)
def t_Lislong_11 (p_Lalong p_Lislong : VSp) : VTS := vSeq (vIfS (vTest (v2 (xEq false) (v2 xIx (vVar 1) (vC (.int 0))) (vC (.str "mark")))) (t_Lislong_2 p_Lalong p_Lislong) vNext) (t_Lislong_10 p_Lalong p_Lislong)
def t_Lislong_12 (p_Lalong p_Lislong : VSp) : VTS := vSeq (vIfS (vTest (v2 (xEq false) (v2 xIx (vVar 1) (vC (.int 0))) (vC (.str "one")))) (t_Lislong_1 p_Lalong p_Lislong) vNext) (t_Lislong_11 p_Lalong p_Lislong)
def t_Lislong (p_Lalong p_Lislong : VSp) : VTS := (t_Lislong_12 p_Lalong p_Lislong)
def t_Lalong_1 (p_Lalong p_Lislong : VSp) : VTS := (vRet (v2 xIx (vOrG (vLcK (vSeqI (vVar 0)) (vgTup 2 (vgCons (vgName 4) (vgCons (vgName 3) vgNil))) (vTest (v2 (xEq false) (vVar 4) (v2 xIx (vVar 1) (vC (.int 1))))) (vVar 3) [4, 3] finD) (vN opLst (vCons (vN opTup (vCons (vC (.str "none")) vNil)) vNil))) (v1 opNeg (vC (.int 1)))))
def t_Lalong_2 (p_Lalong p_Lislong : VSp) : VTS := (vRet (vN opTup (vCons (vC (.str "none")) vNil)))
def t_Lalong_3 (p_Lalong p_Lislong : VSp) : VTS := (vRet (v2 xIx (vVar 3) (vC (.int 2))))
def t_Lalong_4 (p_Lalong p_Lislong : VSp) : VTS := (vRet (v2 xIx (vVar 3) (v2 opAdd (vM "list" opIndex (vN opLst (vCons (vC (.str "first")) (vCons (vC (.str "second")) vNil))) (vCons (v2 xIx (vVar 1) (vC (.int 0))) vNil)) (vC (.int 1)))))
def t_Lalong_5 (p_Lalong p_Lislong : VSp) : VTS := (vRet (vN opTup (vCons (vC (.str "none")) vNil)))
def t_Lalong_6 (p_Lalong p_Lislong : VSp) : VTS := vSeq (vIfS (vAndT (vTest (v2 (xEq true) (v2 xIx (vVar 1) (vC (.int 0))) (vC (.str "give")))) (vTest (v2 (xEq false) (v2 xIx (vVar 3) (vC (.int 0))) (vC (.str "both"))))) (t_Lalong_4 p_Lalong p_Lislong) vNext) (t_Lalong_5 p_Lalong p_Lislong)
def t_Lalong_7 (p_Lalong p_Lislong : VSp) : VTS := vSeq (vIfS (vAndT (vTest (v2 (xEq false) (v2 xIx (vVar 1) (vC (.int 0))) (vC (.str "give")))) (vAndT (vTest (v2 (xEq false) (v2 xIx (vVar 3) (vC (.int 0))) (vC (.str "to")))) (vTruth (vN (opCallK ownD p_Lislong) (vCons (vVar 0) (vCons (v2 xIx (vVar 3) (vC (.int 1))) (vCons (v2 xIx (vVar 1) (vC (.int 2))) (vCons (vVar 2) vNil)))))))) (t_Lalong_3 p_Lalong p_Lislong) vNext) (t_Lalong_6 p_Lalong p_Lislong)
def t_Lalong_8 (p_Lalong p_Lislong : VSp) : VTS := vSeq (vSet 3 (vN (opCallK ownD p_Lalong) (vCons (vVar 0) (vCons (v2 xIx (vVar 1) (vC (.int 1))) (vCons (vVar 2) vNil))))) (t_Lalong_7 p_Lalong p_Lislong)
def t_Lalong_9 (p_Lalong p_Lislong : VSp) : VTS := vSeq (vIfS (vTest (v2 (xIn true) (v2 xIx (vVar 1) (vC (.int 0))) (vN opLst (vCons (vC (.str "first")) (vCons (vC (.str "second")) (vCons (vC (.str "give")) vNil)))))) (t_Lalong_2 p_Lalong p_Lislong) vNext) (t_Lalong_8 p_Lalong p_Lislong)
def t_Lalong_10 (p_Lalong p_Lislong : VSp) : VTS := vSeq (vIfS (vTest (v2 (xEq false) (v2 xIx (vVar 1) (vC (.int 0))) (vC (.str "name")))) (t_Lalong_1 p_Lalong p_Lislong) vNext) (t_Lalong_9 p_Lalong p_Lislong)
def t_Lalong (p_Lalong p_Lislong : VSp) : VTS := (t_Lalong_10 p_Lalong p_Lislong)
def t_Lrowv8_1 (p_Ltake p_Lkind : VSp) : VTS := (vDrop (vM "list" opAppend (vVar 1) (vCons (vN opTup (vCons (vVar 3) (vCons (vN (opCallK ownD p_Lkind) (vCons (vVar 0) (vCons (vVar 4) (vCons (vN opLst (vCons (vC (.str "a")) (vCons (vC (.str "b")) vNil))) vNil)))) vNil))) vNil)))
def t_Lrowv8_2 (p_Ltake p_Lkind : VSp) : VTS := vSeq (vSet 2 (v2 opAdd (vVar 2) (vVar 4))) (t_Lrowv8_1 p_Ltake p_Lkind)
def t_Lrowv8_3 (p_Ltake p_Lkind : VSp) : VTS := (vIfS (vTest (v2 opLt (v2 opAdd (vVar 2) (vVar 4)) (vC (.int 8)))) (t_Lrowv8_2 p_Ltake p_Lkind) vNext)
def t_Lrowv8_4 (p_Ltake p_Lkind : VSp) : VTS := vSeq (vSet 4 (v2 opAdd (vC (.int 1)) (vN (opCallK ownD p_Ltake) (vCons (vVar 0) (vCons (vC (.int 4)) vNil))))) (t_Lrowv8_3 p_Ltake p_Lkind)
def t_Lrowv8_5 (p_Ltake p_Lkind : VSp) : VTS := (vRet (vVar 1))
def t_Lrowv8_6 (p_Ltake p_Lkind : VSp) : VTS := vSeq (vForW (vSeqI (vSl opSl (vN opLst (vCons (vC (.str "f")) (vCons (vC (.str "g")) vNil))) vNoPart (vPart (vN (opCallK ownD p_Ltake) (vCons (vVar 0) (vCons (vC (.int 3)) vNil)))))) (vgName 3)
      (t_Lrowv8_4 p_Ltake p_Lkind)) (t_Lrowv8_5 p_Ltake p_Lkind)
def t_Lrowv8_7 (p_Ltake p_Lkind : VSp) : VTS := vSeq (vSet 2 (vC (.int 2))) (t_Lrowv8_6 p_Ltake p_Lkind)
def t_Lrowv8_8 (p_Ltake p_Lkind : VSp) : VTS := vSeq (vSet 1 (vN opLstO (vCons (vN opTup (vCons (vC (.str "p")) (vCons (vN opTup (vCons (vC (.str "mark")) (vCons (vC (.str "a")) vNil))) vNil))) (vCons (vN opTup (vCons (vC (.str "q")) (vCons (vN opTup (vCons (vC (.str "mark")) (vCons (vC (.str "b")) vNil))) vNil))) vNil)))) (t_Lrowv8_7 p_Ltake p_Lkind)
def t_Lrowv8 (p_Ltake p_Lkind : VSp) : VTS := (t_Lrowv8_8 p_Ltake p_Lkind)
def pLw (N : Nat) : VSp := fun ss st Kp => ∃ k : Kd, k.leaves ≤ N ∧ k.leaves ≤ 100 ∧ ss = [.val k.enc] ∧ st = [] ∧ Kp (.val (.list ((wayL k).map encWy))) []
theorem wayL_row : ∀ (k : Kd) (x : List Mv × Str), x ∈ wayL k → x.1.length + 1 ≤ k.leaves
  | .mark m, x, h => by
    rw [wayL, List.mem_singleton] at h
    rw [h]
    exact Nat.le_refl _
  | .one, x, h => by cases h
  | .to a b, x, h => by
    obtain ⟨y, hy, rfl⟩ := List.mem_map.mp h
    have := wayL_row b y hy
    have := a.leaves_pos
    simp only [List.length_cons, Kd.leaves]
    omega
  | .both a b, x, h => by
    rcases List.mem_append.mp h with h | h
    · obtain ⟨y, hy, rfl⟩ := List.mem_map.mp h
      have := wayL_row a y hy
      have := b.leaves_pos
      simp only [List.length_cons, Kd.leaves]
      omega
    · obtain ⟨y, hy, rfl⟩ := List.mem_map.mp h
      have := wayL_row b y hy
      have := a.leaves_pos
      simp only [List.length_cons, Kd.leaves]
      omega
theorem r_Lw {N : Nat} {ss cs Kp} (h : pLw (N + 1) ss cs Kp) : t_Lways (pLw N) (dV cs.length Kp) ⟨startV 4 ss, cs.map some⟩ := by
  obtain ⟨k, kN, k100, rfl, rfl, q⟩ := h
  have enck : ∀ (mv : Mv) (w : List Mv × Str), PyData.tuple [.list (mv.enc :: w.1.map Mv.enc), .str w.2] = encWy (mv :: w.1, w.2) := fun mv w => rfl
  cases k with
  | one =>
    ktr_call "q4" ⟨t_Lways, t_Lways_8, t_Lways_1, Kd.enc, List.length_cons, List.length_nil⟩
    exact q
  | mark m =>
    ktr_call "q4" ⟨t_Lways, t_Lways_8, Kd.enc, List.length_cons, List.length_nil⟩
    rw [if_neg (by decide), vNext_mk]
    ktr_call "q4" ⟨t_Lways_7, t_Lways_2, List.length_cons, List.length_nil⟩
    rw [if_pos (by decide)]
    exact q
  | to a b =>
    have wl := wayL_len b
    have wn := nways_le b
    have ap := a.leaves_pos
    simp only [Kd.leaves] at kN k100
    ktr_call "q4" ⟨t_Lways, t_Lways_8, Kd.enc, List.length_cons, List.length_nil⟩
    rw [if_neg (by decide), vNext_mk]
    ktr_call "q4" ⟨t_Lways_7, List.length_cons, List.length_nil⟩
    rw [if_neg (by decide), vNext_mk]
    ktr_call "q4" ⟨t_Lways_6, t_Lways_3⟩
    refine ⟨b, by omega, by omega, rfl, rfl, ?_⟩
    ktr_call "q4" "0"
    refine cl_mapE encWy (fun w => encWy (.kd a :: w.1, w.2)) (wayL b) (big (by simp only [List.length_nil]; omega)) (fun w Kt hw hk' => ?_) ?_
    · have wr := wayL_row b w hw
      ktr_call "q4" ⟨encWy, encMs, List.length_cons, List.length_nil⟩
      exact ⟨big (by omega), hk' _ rfl⟩
    · simp only [List.nil_append]
      rw [show (wayL b).map (fun w => encWy (.kd a :: w.1, w.2)) = (wayL (.to a b)).map encWy from by rw [wayL, List.map_map]; rfl]
      exact q
  | both a b =>
    have wla := wayL_len a
    have wna := nways_le a
    have wlb := wayL_len b
    have wnb := nways_le b
    have ap := a.leaves_pos
    have bp := b.leaves_pos
    simp only [Kd.leaves] at kN k100
    ktr_call "q4" ⟨t_Lways, t_Lways_8, Kd.enc, List.length_cons, List.length_nil⟩
    rw [if_neg (by decide), vNext_mk]
    ktr_call "q4" ⟨t_Lways_7, List.length_cons, List.length_nil⟩
    rw [if_neg (by decide), vNext_mk]
    ktr_call "q4" ⟨t_Lways_6⟩
    rw [vNext_mk]
    ktr_call "q4" ⟨t_Lways_5⟩
    refine ⟨a, by omega, by omega, rfl, rfl, ?_⟩
    ktr_call "q4" "0"
    refine cl_mapE encWy (fun w => encWy (.one :: w.1, w.2)) (wayL a) (big (by simp only [List.length_nil]; omega)) (fun w Kt hw hk' => ?_) ?_
    · have wr := wayL_row a w hw
      ktr_call "q4" ⟨encWy, encMs, List.length_cons, List.length_nil⟩
      exact ⟨big (by omega), hk' _ rfl⟩
    · ktr_call "q4" ⟨List.nil_append, t_Lways_4⟩
      refine ⟨b, by omega, by omega, rfl, rfl, ?_⟩
      ktr_call "q4" "0"
      refine cl_mapE encWy (fun w => encWy (.two :: w.1, w.2)) (wayL b) (big (by simp only [List.length_nil]; omega)) (fun w Kt hw hk' => ?_) ?_
      · have wr := wayL_row b w hw
        ktr_call "q4" ⟨encWy, encMs, List.length_cons, List.length_nil⟩
        exact ⟨big (by omega), hk' _ rfl⟩
      · ktr_call "q4" ⟨List.nil_append, List.length_map⟩
        refine ⟨big (by omega), ?_⟩
        rw [show (wayL a).map (fun w => encWy (.one :: w.1, w.2)) ++ (wayL b).map (fun w => encWy (.two :: w.1, w.2)) = (wayL (.both a b)).map encWy from by rw [wayL, List.map_append, List.map_map, List.map_map]; rfl]
        exact q
/-- a comprehension with a test and a part of each item -/
theorem cl_fm {α : Type} (enc out : α → D) (pr : α → Bool) {g : VTG} {tt : VTT} {te : VTE} {chk : Option (En → Prop)} {vs : List Nat} {n : Nat} {e : En} {Kq : List D → En → Prop} (xs : List α) (hl : xs.length ≤ 1000000) (hc : okc chk e)
    (hs : ∀ x ∈ xs, ∀ (Ky : D → En → Prop) (Kn : En → Prop), (pr x = true → ∀ e', (e'.wipe vs).trim n = e → Ky (out x) e') → (pr x = false → ∀ e', (e'.wipe vs).trim n = e → Kn e') → g (.val (enc x)) e fun e1 => tt e1 fun b e2 => if b = true then te e2 fun s e3 => asD s e3 Ky else Kn e2)
    (h : Kq ((xs.filter pr).map out) e) : cl g tt te chk vs n (xs.map enc) [] e Kq := by
  refine cl_inv (fun i acc e' => acc = ((xs.take i).filter pr).map out ∧ e' = e) (fun i acc e' _ h => h.2 ▸ hc) ?_ ?_ ⟨by simp, rfl⟩
  · rintro i d acc e' Kt hd ⟨rfl, rfl⟩ hk
    rw [List.getElem?_map] at hd
    obtain ⟨x, hx, rfl⟩ := Option.map_eq_some_iff.mp hd
    have hlt := (List.getElem?_eq_some_iff.mp hx).1
    have tk : (xs.take (i + 1)).filter pr = (xs.take i).filter pr ++ (if pr x = true then [x] else []) := by
      rw [List.take_add_one, hx, List.filter_append]
      show _ ++ [x].filter pr = _
      rw [List.filter_cons]
      rfl
    have ll : (((xs.take i).filter pr).map out).length < sizeLine := by
      have h1 := List.length_filter_le pr (xs.take i)
      rw [List.length_take] at h1
      rw [List.length_map]
      exact bigl (by omega)
    refine hs x (List.mem_of_getElem? hx) (fun y e4 => (((xs.take i).filter pr).map out).length < sizeLine ∧ Kt (((xs.take i).filter pr).map out ++ [y]) ((e4.wipe vs).trim n)) (fun e2 => Kt (((xs.take i).filter pr).map out) ((e2.wipe vs).trim n)) (fun hp e4 he => ⟨ll, hk _ _ ⟨?_, he⟩⟩) (fun hp e4 he => hk _ _ ⟨?_, he⟩)
    · rw [tk, if_pos hp, List.map_append]; rfl
    · rw [tk, hp]; simp
  · rintro acc e' ⟨rfl, rfl⟩
    rw [List.length_map, List.take_length]
    exact h
def noneD : D := .tuple [.str "none"]
structure KnOk (r : List (Str × Kd)) (T : List Kd) : Prop where
  ro : RowOk ab r
  kd : ∀ x ∈ kwn r T, kOk ab x.2
  len : r.length ≤ 10
theorem KnOk.snoc {r : List (Str × Kd)} {T : List Kd} {a : Kd} (h : KnOk r T) (ha : kOk ab a) : KnOk r (T ++ [a]) := ⟨h.ro, fun x hx => by
  rw [kwn_snoc] at hx
  rcases List.mem_append.mp hx with hx | hx
  · exact h.kd x hx
  · rw [List.mem_singleton.mp hx]
    exact ha, h.len⟩
theorem abM : okM ab := by
  intro m hm
  simp only [List.mem_cons, List.not_mem_nil, or_false] at hm
  rcases hm with rfl | rfl <;> decide +kernel
theorem mvsh : SeqAt.shaped (.list [.str "first", .str "second", .str "give"]) = true := by decide +kernel
def Bqz : Nat → Nat
  | 0 => 5
  | n + 1 => 12 * Bqz n + 5
theorem way_kd {a : Kd} {ms : List Mv} {m : Str} : ∀ {k : Kd}, (Mv.kd a :: ms, m) ∈ wayL k → ∃ b, k = .to a b ∧ (ms, m) ∈ wayL b
  | .mark _, h => by simp [wayL] at h
  | .one, h => by cases h
  | .to x b, h => by
    obtain ⟨y, hy, e⟩ := List.mem_map.mp h
    cases e
    exact ⟨b, rfl, hy⟩
  | .both x y, h => by
    rcases List.mem_append.mp h with h | h
    · obtain ⟨z, hz, e⟩ := List.mem_map.mp h
      cases e
    · obtain ⟨z, hz, e⟩ := List.mem_map.mp h
      cases e
theorem way_one {ms : List Mv} {m : Str} : ∀ {k : Kd}, (Mv.one :: ms, m) ∈ wayL k → ∃ a b, k = .both a b ∧ (ms, m) ∈ wayL a
  | .mark _, h => by simp [wayL] at h
  | .one, h => by cases h
  | .to x b, h => by
    obtain ⟨y, hy, e⟩ := List.mem_map.mp h
    cases e
  | .both x y, h => by
    rcases List.mem_append.mp h with h | h
    · obtain ⟨z, hz, e⟩ := List.mem_map.mp h
      cases e
      exact ⟨x, y, rfl, hz⟩
    · obtain ⟨z, hz, e⟩ := List.mem_map.mp h
      cases e
theorem way_two {ms : List Mv} {m : Str} : ∀ {k : Kd}, (Mv.two :: ms, m) ∈ wayL k → ∃ a b, k = .both a b ∧ (ms, m) ∈ wayL b
  | .mark _, h => by simp [wayL] at h
  | .one, h => by cases h
  | .to x b, h => by
    obtain ⟨y, hy, e⟩ := List.mem_map.mp h
    cases e
  | .both x y, h => by
    rcases List.mem_append.mp h with h | h
    · obtain ⟨z, hz, e⟩ := List.mem_map.mp h
      cases e
    · obtain ⟨z, hz, e⟩ := List.mem_map.mp h
      cases e
      exact ⟨x, y, rfl, hz⟩
theorem way_nil {m : Str} : ∀ {k : Kd}, ([], m) ∈ wayL k → k = .mark m
  | .mark _, h => by
    rw [wayL, List.mem_singleton] at h
    cases h
    rfl
  | .one, h => by cases h
  | .to x b, h => by
    obtain ⟨y, hy, e⟩ := List.mem_map.mp h
    cases e
  | .both x y, h => by
    rcases List.mem_append.mp h with h | h
    · obtain ⟨z, hz, e⟩ := List.mem_map.mp h
      cases e
    · obtain ⟨z, hz, e⟩ := List.mem_map.mp h
      cases e
theorem nodes_lv : ∀ k : Kd, k.nodes + 1 ≤ 2 * k.leaves
  | .mark m => by simp [Kd.nodes, Kd.leaves]
  | .one => by simp [Kd.nodes, Kd.leaves]
  | .to a b => by have := nodes_lv a; have := nodes_lv b; simp only [Kd.nodes, Kd.leaves]; omega
  | .both a b => by have := nodes_lv a; have := nodes_lv b; simp only [Kd.nodes, Kd.leaves]; omega
theorem ok4_k {k : Kd} (h : k.ok4) : kOk ab k := by
  have h1 := k.deep_lt
  have h2 := nodes_lv k
  have h3 := h.2
  exact ⟨h.1, by have := h.2; omega, by have := h.2; omega⟩
theorem ok4_d {k : Kd} (h : k.ok4) : kdOk k := by
  have h1 := k.deep_lt
  exact ⟨by have := h.2; omega, by have := h.2; omega⟩
theorem way_can : ∀ (k : Kd), k.ok4 → ∀ x ∈ wayL k, ∀ v ∈ x.1, PyData.canLay0 v.enc = true ∧ PyData.depth v.enc ≤ 20
  | .mark m, _, x, hx, v, hv => by
    rw [wayL, List.mem_singleton] at hx
    rw [hx] at hv
    cases hv
  | .one, _, x, hx, v, hv => by cases hx
  | .to a b, h, x, hx, v, hv => by
    obtain ⟨y, hy, rfl⟩ := List.mem_map.mp hx
    rcases List.mem_cons.mp hv with rfl | hv
    · have h1 := a.deep_lt
      have h2 := h.l.1.2
      exact ⟨a.can_enc ab_ok h.l.1.1, by show PyData.depth a.enc ≤ 20; rw [a.depth_enc]; omega⟩
    · exact way_can b h.l.2 y hy v hv
  | .both a b, h, x, hx, v, hv => by
    rcases List.mem_append.mp hx with hx | hx
    · obtain ⟨y, hy, rfl⟩ := List.mem_map.mp hx
      rcases List.mem_cons.mp hv with rfl | hv
      · exact ⟨by decide +kernel, by decide +kernel⟩
      · exact way_can a h.r.1 y hy v hv
    · obtain ⟨y, hy, rfl⟩ := List.mem_map.mp hx
      rcases List.mem_cons.mp hv with rfl | hv
      · exact ⟨by decide +kernel, by decide +kernel⟩
      · exact way_can b h.r.2 y hy v hv
theorem mvs_shp : ∀ (ms : List Mv), (∀ v ∈ ms, PyData.canLay0 v.enc = true ∧ PyData.depth v.enc ≤ 20) → PyData.canLayAll0 (ms.map Mv.enc) = true ∧ PyData.depthAll (ms.map Mv.enc) ≤ 20
  | [], _ => by rw [List.map_nil, canAll_nil, depthAll_nil]; exact ⟨rfl, Nat.zero_le _⟩
  | v :: ms, h => by
    have h1 := h v List.mem_cons_self
    have h2 := mvs_shp ms fun x hx => h x (List.mem_cons_of_mem _ hx)
    rw [List.map_cons, canAll_cons, depthAll_cons, h1.1, h2.1]
    exact ⟨rfl, by omega⟩
theorem way_shp {k : Kd} (h : k.ok4) {ms : List Mv} {m : Str} (hx : (ms, m) ∈ wayL k) : Vl.shp (.list (ms.map Mv.enc)) = true := by
  have := mvs_shp ms (way_can k h _ hx)
  unfold Vl.shp
  rw [can_lst, depth_lst, this.1, decide_eq_true (by omega)]
  rfl
structure RowL (r : List (Str × Kd)) : Prop where
  ro : RowOk ab r
  ok : ∀ x ∈ r, PyData.strOk x.1 = true ∧ x.2.ok4
  p : (Str.ofString "p", Kd.mark (Str.ofString "a")) ∈ r
  q : (Str.ofString "q", Kd.mark (Str.ofString "b")) ∈ r
  len : r.length ≤ 4
def pLgd (N : Nat) : VSp := fun ss st Kp => ∃ (r : List (Str × Kd)) (T : List Kd) (k : Kd) (room : Nat) (c n : Int), ss = [.obj 0, .val (.list ((kwn r T).map encB)), .val k.enc, .val (.tuple [.int (T.length : Nat), .int (room : Nat)])] ∧ st = [.l [.int c, .int n]] ∧ PoolK n ∧ RowL r ∧ (∀ a ∈ T, a.ok4) ∧ k.ok4 ∧ 5 * room + k.leaves ≤ N ∧ T.length + N ≤ 40 ∧
  ∀ (p : Pg) (ms : List Mk) (c' n' : Int), Lg r false T k p ms → p.size + 1 ≤ k.leaves * Bqz room → p.deep ≤ 8 * room + k.leaves → PoolK n' → Kp (.val p.enc) [.l [.int c', .int n']]
theorem r_Lgd {N : Nat} {ss cs Kp} (h : pLgd (N + 1) ss cs Kp) : t_Llonged (pLgd N) (pLw 4) pTake (dV cs.length Kp) ⟨startV 13 ss, cs.map some⟩ := by
  obtain ⟨r, T, k, room, c, n, rfl, rfl, pn, rl, tO, ko, hN, hT, q⟩ := h
  have rn := rl.len
  have el : ((kwn r T).map encB).length = r.length + T.length := by rw [List.length_map, kwn_len]
  have kO : ∀ x ∈ kwn r T, PyData.strOk x.1 = true ∧ x.2.ok4 := fun x hx => by
    rcases List.mem_append.mp hx with hx | hx
    · exact rl.ok x hx
    · obtain ⟨j, h1, h2⟩ := tkn_mem (x := x.1) (k := x.2) hx
      exact ⟨by rw [h2]; exact strOk_xN _, tO _ (List.mem_of_getElem? h1)⟩
  have B5 : 5 ≤ Bqz room := by cases room <;> simp only [Bqz] <;> omega
  cases k with
  | one =>
    ktr_call "q4" ⟨t_Llonged, t_Llonged_20, t_Llonged_19, t_Llonged_1, Kd.enc⟩
    exact q .thing [] _ _ .on (by simp only [Pg.size, Kd.leaves]; omega) (by simp only [Pg.deep]; omega) pn
  | both a b =>
    have ap := a.leaves_pos
    have bp := b.leaves_pos
    simp only [Kd.leaves] at hN q
    ktr_call "q4" ⟨t_Llonged, t_Llonged_20, Kd.enc⟩
    ktr_call "q4" ⟨t_Llonged_19⟩
    rw [vNext_mk]
    ktr_call "q4" ⟨t_Llonged_18, t_Llonged_2⟩
    refine ⟨r, T, a, room, c, n, rfl, rfl, pn, rl, tO, ko.r.1, by omega, by omega, fun p1 m1 c1 n1 g1 s1 d1 pn1 => ?_⟩
    ktr_call "q4" "0"
    refine ⟨r, T, b, room, c1, n1, rfl, rfl, pn1, rl, tO, ko.r.2, by omega, by omega, fun p2 m2 c2 n2 g2 s2 d2 pn2 => ?_⟩
    ktr_call "q4" "0"
    have e : (a.leaves + b.leaves) * Bqz room = a.leaves * Bqz room + b.leaves * Bqz room := Nat.add_mul _ _ _
    exact q (.pair p1 p2) _ _ _ (.bo g1 g2) (by simp only [Pg.size]; omega) (by simp only [Pg.deep]; omega) pn2
  | to a b =>
    have ap := a.leaves_pos
    have bp := b.leaves_pos
    simp only [Kd.leaves] at hN q
    ktr_call "q4" ⟨t_Llonged, t_Llonged_20, Kd.enc⟩
    ktr_call "q4" ⟨t_Llonged_19⟩
    rw [vNext_mk]
    ktr_call "q4" ⟨t_Llonged_18⟩
    rw [vNext_mk]
    ktr_call "q4" ⟨t_Llonged_17, t_Llonged_4, Vl.opStr⟩
    refine ⟨lg (by omega), by rw [← String.length_append]; exact lgs (by omega), ?_⟩
    have ex : Str.ofString ("x" ++ toString ((T.length : Nat) : Int)) = xN T.length := rfl
    have ek : (kwn r T).map encB ++ [.tuple [.str (xN T.length), a.enc]] = (kwn r (T ++ [a])).map encB := by rw [kwn_snoc, List.map_append]; rfl
    rw [ex]
    ktr_call "q4" ⟨t_Llonged_3, el, ek⟩
    refine ⟨big (by omega), r, T ++ [a], b, room, c, n, ?_, rfl, pn, rl, fun x hx => ?_, ko.l.2, by omega, by rw [List.length_append, List.length_singleton]; omega, fun p1 m1 c1 n1 g1 s1 d1 pn1 => ?_⟩
    · rw [List.length_append, List.length_singleton]
      rfl
    · rcases List.mem_append.mp hx with hx | hx
      · exact tO x hx
      · rw [List.mem_singleton.mp hx]
        exact ko.l.1
    · ktr_call "q4" "0"
      have e : (a.leaves + b.leaves) * Bqz room = a.leaves * Bqz room + b.leaves * Bqz room := Nat.add_mul _ _ _
      have e2 : Bqz room ≤ a.leaves * Bqz room := Nat.le_mul_of_pos_left _ ap
      exact q (.take (xN T.length) a p1) _ _ _ (.ta (ok4_d ko.l.1) g1) (by simp only [Pg.size]; omega) (by simp only [Pg.deep]; omega) pn1
  | mark m =>
    have kwl : (kwn r T).length ≤ 44 := by rw [kwn_len]; omega
    ktr_call "q4" ⟨t_Llonged, t_Llonged_20, Kd.enc⟩
    ktr_call "q4" ⟨t_Llonged_19⟩
    rw [vNext_mk]
    ktr_call "q4" ⟨t_Llonged_18⟩
    rw [vNext_mk]
    ktr_call "q4" ⟨t_Llonged_17⟩
    rw [vNext_mk]
    ktr_call "q4" ⟨t_Llonged_16, t_Llonged_15⟩
    have mm : m ∈ ab := ko.1
    /- what stands behind the choice -/
    have pick : ∀ (es : List (Str × List Mv)) (x6 x8 : Option Sl), es ≠ [] → es.length ≤ 1000 → (∀ x ∈ es, ∃ k : Kd, (x.1, k) ∈ kwn r T ∧ (x.2, m) ∈ wayL k ∧ (room = 0 → x.2 = [])) → t_Llonged_13 (pLgd N) (pLw 4) pTake (dV 1 Kp) ⟨[some (.obj 0), some (.val (.list ((kwn r T).map encB))), some (.val (Kd.mark m).enc), some (.val (.tuple [.int (T.length : Nat), .int (room : Nat)])), some (.val (.int (T.length : Nat))), some (.val (.int (room : Nat))), x6, some (.val (.list (es.map encE))), x8, none, none, none, none], [some (.l [.int c, .int n])]⟩ := by
      intro es x6 x8 hne hl he
      have hp : 0 < es.length := List.length_pos_iff.mpr hne
      ktr_call "q3" ⟨t_Llonged_13, List.length_map, pTake⟩
      refine ⟨pn, by omega, by omega, fun l c2 n2 l0 l1 pn2 => ?_⟩
      obtain ⟨d, hd, hm⟩ := at_any (xs := es.map encE) l0 (by rw [List.length_map]; exact l1)
      obtain ⟨⟨x, ms⟩, hx, rfl⟩ := List.mem_map.mp hm
      obtain ⟨k0, hk0, hms, hr0⟩ := he _ hx
      simp only at hms hr0
      have kO0 := (kO _ hk0).2
      ktr_call "q3" ⟨hd, encE, encMs, t_Llonged_12, t_Llonged_11⟩
      have ml := wayL_row k0 (ms, m) hms
      simp only at ml
      have kl := kO0.2
      simp only at kl
      have r1 : ms ≠ [] → 1 ≤ room := fun h => by
        rcases Nat.eq_zero_or_pos room with h0 | h0
        · exact absurd (hr0 h0) h
        · exact h0
      refine fl_invW (chk := none) Mv.enc ms (fun us e => ∃ (p : Pg) (k : Kd) (mk : List Mk) (c n : Int) (y8 : Option Sl), e = ⟨[some (.obj 0), some (.val (.list ((kwn r T).map encB))), some (.val (Kd.mark m).enc), some (.val (.tuple [.int (T.length : Nat), .int (room : Nat)])), some (.val (.int (T.length : Nat))), some (.val (.int (room : Nat))), some (.val (.str x)), some (.val (.list (es.map encE))), y8, some (.val (.list (ms.map Mv.enc))), some (.val p.enc), none, none], [some (.l [.int c, .int n])]⟩ ∧ PoolK n ∧ Lg r true T k p mk ∧ k.ok4 ∧ (ms.drop us.length, m) ∈ wayL k ∧ p.size ≤ 1 + us.length * (1 + 4 * Bqz (room - 1)) ∧ p.deep ≤ us.length + 4 + 8 * (room - 1) ∧ (us.length = 0 → p.deep = 0)) (fun _ _ _ => trivial) ?_ ?_ ?_
      · rintro us v vs e Nx hus ⟨p, k, mk, c3, n3, y8, rfl, pn3, hg, ko3, hms3, sz, dp, _⟩ hk
        have il : us.length < ms.length := by rw [hus]; simp
        have rp : 1 ≤ room := r1 fun e => by rw [e] at il; simp at il
        have hdr : ms.drop us.length = v :: ms.drop (us.length + 1) := by
          rw [hus]
          simp
        rw [hdr] at hms3
        have szs : (us ++ [v]).length * (1 + 4 * Bqz (room - 1)) = us.length * (1 + 4 * Bqz (room - 1)) + (1 + 4 * Bqz (room - 1)) := by rw [List.length_append, List.length_singleton, Nat.succ_mul]
        have ul1x : (us ++ [v]).length = us.length + 1 := by simp
        cases v with
        | one =>
          obtain ⟨a, b, rfl, hr⟩ := way_one hms3
          ktr_call "q3" ⟨Mv.enc, t_Llonged_9, t_Llonged_7⟩
          refine hk _ 1 [8, 11, 12] (Nat.le_refl _) ⟨.first p, a, sh 0 mk, c3, n3, none, rfl, pn3, .fs hg, ko3.r.1, by rw [ul1x]; exact hr, ?_, ?_, ?_⟩
          · rw [szs]; simp only [Pg.size]; omega
          · rw [ul1x]; simp only [Pg.deep]; omega
          · rw [ul1x]; omega
        | two =>
          obtain ⟨a, b, rfl, hr⟩ := way_two hms3
          ktr_call "q3" ⟨Mv.enc, t_Llonged_9, t_Llonged_7⟩
          refine hk _ 1 [8, 11, 12] (Nat.le_refl _) ⟨.second p, b, sh 0 mk, c3, n3, none, rfl, pn3, .sn hg, ko3.r.2, by rw [ul1x]; exact hr, ?_, ?_, ?_⟩
          · rw [szs]; simp only [Pg.size]; omega
          · rw [ul1x]; simp only [Pg.deep]; omega
          · rw [ul1x]; omega
        | kd a =>
          obtain ⟨b, rfl, hr⟩ := way_kd hms3
          have ao := ko3.l.1
          have al := ao.2
          have er : ((room : Nat) : Int) - 1 = ((room - 1 : Nat) : Int) := by omega
          simp only [Kd.leaves] at hN
          ktr_call "q3" ⟨Mv.enc, t_Llonged_9, t_Llonged_8, Kd.eqv_int, er⟩
          refine ⟨okEq_of ao.shp (shp_int _), okEq_of ao.shp (shp_int _), r, T, a, room - 1, c3, n3, rfl, rfl, pn3, rl, tO, ao, by omega, by omega, fun p' m' c4 n4 g4 s4 d4 pn4 => ?_⟩
          have s2 : a.leaves * Bqz (room - 1) ≤ 4 * Bqz (room - 1) := Nat.mul_le_mul_right _ al
          ktr_call "q3" "0"
          refine hk _ 1 [8, 11, 12] (Nat.le_refl _) ⟨.give p p', b, sh 0 mk ++ sh 1 m', c4, n4, none, rfl, pn4, .gv hg g4, ko3.l.2, by rw [ul1x]; exact hr, ?_, ?_, ?_⟩
          · rw [szs]; simp only [Pg.size]; omega
          · rw [ul1x]; simp only [Pg.deep]; omega
          · rw [ul1x]; omega
      · rintro e ⟨p, k, mk, c3, n3, y8, rfl, pn3, hg, ko3, hms3, sz, dp, d0⟩
        rw [List.drop_length] at hms3
        have ek := way_nil hms3
        subst ek
        ktr_call "q3" ⟨t_Llonged_10⟩
        refine q p _ c3 n3 (.mk hg) ?_ ?_ pn3
        · simp only [Kd.leaves, Nat.one_mul]
          rcases Nat.eq_zero_or_pos room with h0 | h0
          · have : ms.length = 0 := by rw [hr0 h0]; rfl
            rw [this] at sz
            omega
          · have h1 : ms.length * (1 + 4 * Bqz (room - 1)) ≤ 3 * (1 + 4 * Bqz (room - 1)) := Nat.mul_le_mul_right _ (by omega)
            have h3 : Bqz room = 12 * Bqz (room - 1) + 5 := by
              obtain ⟨rr, rfl⟩ : ∃ rr, room = rr + 1 := ⟨room - 1, by omega⟩
              rfl
            omega
        · simp only [Kd.leaves]
          rcases Nat.eq_zero_or_pos room with h0 | h0
          · have : ms.length = 0 := by rw [hr0 h0]; rfl
            have := d0 this
            omega
          · omega
      · exact ⟨.name x, k0, [], c2, n2, x8, rfl, pn2, .nm hk0, kO0, by simpa using hms, by simp only [Pg.size]; omega, by simp only [Pg.deep]; omega, fun _ => rfl⟩
    refine fl_invW (chk := none) encB (kwn r T) (fun ys e => ∃ (es : List (Str × List Mv)), e = ⟨[some (.obj 0), some (.val (.list ((kwn r T).map encB))), some (.val (Kd.mark m).enc), some (.val (.tuple [.int (T.length : Nat), .int (room : Nat)])), some (.val (.int (T.length : Nat))), some (.val (.int (room : Nat))), none, some (.val (.list (es.map encE))), none, none, none, none, none], [some (.l [.int c, .int n])]⟩ ∧ es.length ≤ 4 * ys.length ∧ (∀ x ∈ es, ∃ k : Kd, (x.1, k) ∈ kwn r T ∧ (x.2, m) ∈ wayL k) ∧ ∀ y ∈ ys, y.2 = .mark m → (y.1, []) ∈ es) (fun _ _ _ => trivial) ?_ ?_ ⟨[], rfl, Nat.zero_le _, fun x hx => (by cases hx), fun y hy => (by cases hy)⟩
    · rintro ys v vs e Nx hys ⟨es, rfl, el2, he, hp⟩ hk
      have vm : v ∈ kwn r T := by rw [hys]; simp
      have vo := (kO v vm).2
      have yl : ys.length ≤ 44 := by
        have := congrArg List.length hys
        rw [List.length_append] at this
        omega
      have wl := wayL_len v.2
      have wn := nways_le v.2
      have w4 := vo.2
      have fl := List.length_filter_le (fun w : List Mv × Str => decide (w.2 = m)) (wayL v.2)
      ktr_call "q3" ⟨t_Llonged_5, encB⟩
      refine ⟨v.2, w4, by omega, rfl, rfl, ?_⟩
      ktr_call "q3" "0"
      refine cl_fm (chk := none) encWy (fun w => encE (v.1, w.1)) (fun w => decide (w.2 = m)) (wayL v.2) (by omega) True.intro ?_ ?_
      · intro w hw Ky Kn h1 h2
        ktr_call "q4" ⟨encWy, Kd.enc⟩
        by_cases hw2 : w.2 = m
        · rw [if_pos hw2]
          exact h1 (decide_eq_true hw2) _ rfl
        · rw [if_neg hw2]
          exact h2 (decide_eq_false hw2) _ rfl
      · ktr_call "q4" ⟨List.length_map⟩
        have em : es.map encE ++ ((wayL v.2).filter fun w => decide (w.2 = m)).map (fun w => encE (v.1, w.1)) = (es ++ ((wayL v.2).filter fun w => decide (w.2 = m)).map fun w => (v.1, w.1)).map encE := by
          rw [List.map_append, List.map_map]
          rfl
        refine ⟨big (by omega), ?_⟩
        rw [em]
        refine hk _ 1 [6, 8] (Nat.le_refl _) ⟨es ++ ((wayL v.2).filter fun w => decide (w.2 = m)).map (fun w => (v.1, w.1)), rfl, ?_, ?_, ?_⟩
        · simp only [List.length_append, List.length_map, List.length_singleton]
          omega
        · intro x hx
          rcases List.mem_append.mp hx with hx | hx
          · exact he x hx
          · obtain ⟨w, hw, rfl⟩ := List.mem_map.mp hx
            obtain ⟨hw1, hw2⟩ := List.mem_filter.mp hw
            have hw3 : w.2 = m := of_decide_eq_true hw2
            exact ⟨v.2, vm, by rw [← hw3]; exact hw1⟩
        · intro y hy hym
          rcases List.mem_append.mp hy with hy | hy
          · exact List.mem_append_left _ (hp y hy hym)
          · rw [List.mem_singleton.mp hy] at hym ⊢
            refine List.mem_append_right _ (List.mem_map.mpr ⟨([], m), List.mem_filter.mpr ⟨?_, decide_eq_true rfl⟩, rfl⟩)
            rw [hym]
            exact List.mem_singleton.mpr rfl
    · rintro e ⟨es, rfl, el2, he, hp⟩
      have ne : ∃ x : Str, (x, []) ∈ es := by
        simp only [List.mem_cons, List.not_mem_nil, or_false] at mm
        rcases mm with rfl | rfl
        · exact ⟨_, hp _ (List.mem_append_left _ rl.p) rfl⟩
        · exact ⟨_, hp _ (List.mem_append_left _ rl.q) rfl⟩
      obtain ⟨x0, hx0⟩ := ne
      ktr_call "q4" ⟨t_Llonged_14⟩
      by_cases h0 : room = 0
      · subst h0
        rw [if_pos (by decide)]
        ktr_call "q4" ⟨t_Llonged_6⟩
        refine cl_fm (chk := none) encE encE (fun w => w.2.isEmpty) es (by omega) True.intro ?_ ?_
        · intro w hw Ky Kn h1 h2
          ktr_call "q4" ⟨encE, encMs⟩
          obtain ⟨k, h3, h4⟩ := he w hw
          refine ⟨okEq_of (way_shp (kO _ h3).2 h4) (by decide +kernel), ?_⟩
          rw [eqv_nil]
          have ei : (w.2.map Mv.enc).isEmpty = w.2.isEmpty := by cases w.2 <;> rfl
          rw [ei]
          cases hb : w.2.isEmpty with
          | true =>
            rw [if_pos rfl]
            exact h1 hb _ rfl
          | false =>
            rw [if_neg (by decide)]
            exact h2 hb _ rfl
        · refine pick (es.filter fun w => w.2.isEmpty) _ _ (fun e => ?_) (by have := List.length_filter_le (fun w : Str × List Mv => w.2.isEmpty) es; omega) (fun x hx => ?_)
          · have : (x0, []) ∈ es.filter fun w => w.2.isEmpty := List.mem_filter.mpr ⟨hx0, rfl⟩
            rw [e] at this
            cases this
          · obtain ⟨h1, h2⟩ := List.mem_filter.mp hx
            obtain ⟨k, h3, h4⟩ := he x h1
            exact ⟨k, h3, h4, fun _ => List.isEmpty_iff.mp h2⟩
      · rw [if_neg (by omega), vNext_mk]
        refine pick es none none (fun e => by rw [e] at hx0; cases hx0) (by omega) (fun x hx => ?_)
        obtain ⟨k, h3, h4⟩ := he x hx
        exact ⟨k, h3, h4, fun h => absurd h h0⟩
abbrev fourN : List Str := ["p", "q", "f", "g"]
theorem xN_four (j : Nat) : xN j ∉ fourN := by
  intro h
  have e : (xN j).cps[0]? = some 120 := by
    unfold xN
    rw [Str.ofString_eq_toList, String.toList_append]
    rfl
  have g : ∀ z ∈ fourN, z.cps[0]? ≠ some 120 := by decide +kernel
  exact g _ h e
theorem row_of {ex : List (Str × Kd)} {ys : List Str} (hs : (ex.map (·.1)).Sublist ys) (hy : ys.Sublist ["f", "g"]) (ho : ∀ x ∈ ex, x.2.ok4) : RowL ([(Str.ofString "p", Kd.mark (Str.ofString "a")), (Str.ofString "q", Kd.mark (Str.ofString "b"))] ++ ex) := by
  have hn : (([(Str.ofString "p", Kd.mark (Str.ofString "a")), (Str.ofString "q", Kd.mark (Str.ofString "b"))] ++ ex).map (·.1)).Sublist fourN := by
    rw [List.map_append]
    exact List.Sublist.append (List.Sublist.refl ([Str.ofString "p", Str.ofString "q"])) (hs.trans hy)
  have nd : fourN.Nodup := by decide +kernel
  have so : ∀ z ∈ fourN, PyData.strOk z = true := by decide +kernel
  have ok : ∀ x ∈ [(Str.ofString "p", Kd.mark (Str.ofString "a")), (Str.ofString "q", Kd.mark (Str.ofString "b"))] ++ ex, x.2.ok4 := fun x hx => by
    rcases List.mem_append.mp hx with hx | hx
    · simp only [List.mem_cons, List.not_mem_nil, or_false] at hx
      rcases hx with rfl | rfl
      · exact ⟨show Str.ofString "a" ∈ ab by decide +kernel, by decide +kernel⟩
      · exact ⟨show Str.ofString "b" ∈ ab by decide +kernel, by decide +kernel⟩
    · exact ho x hx
  have ll := hn.length_le
  rw [List.length_map] at ll
  have l4 : fourN.length = 4 := rfl
  exact ⟨⟨nd.sublist hn, fun j h => xN_four j (hn.subset h), fun x hx => ok4_k (ok x hx), by omega⟩, fun x hx => ⟨so _ (hn.subset (List.mem_map.mpr ⟨x, hx, rfl⟩)), ok x hx⟩, by simp, by simp, by omega⟩
def pRw : VSp := fun ss st Kp => ∃ c n : Int, ss = [.obj 0] ∧ st = [.l [.int c, .int n]] ∧ PoolK n ∧ ∀ (r : List (Str × Kd)) (c' n' : Int), RowL r → PoolK n' → Kp (.obj 1) [.l [.int c', .int n'], .l (r.map encB)]
theorem r_Rw {ss cs Kp} (h : pRw ss cs Kp) : t_Lrowv8 pTake (pKind 4) (dV cs.length Kp) ⟨startV 5 ss, cs.map some⟩ := by
  obtain ⟨c, n, rfl, rfl, pn, q⟩ := h
  ktr_call "q3" ⟨t_Lrowv8, t_Lrowv8_8, t_Lrowv8_7, t_Lrowv8_6, pTake⟩
  refine ⟨pn, fun l c1 n1 l0 l1 pn1 => ?_⟩
  obtain ⟨ws, hws, ew⟩ : ∃ ws : List Str, ws.Sublist ["f", "g"] ∧ Vl.cut [PyData.str (Str.ofString "f"), PyData.str (Str.ofString "g")] none (some l) = ws.map .str := by
    have : l = 0 ∨ l = 1 ∨ l = 2 := by omega
    rcases this with rfl | rfl | rfl
    · exact ⟨[], by decide +kernel, rfl⟩
    · exact ⟨["f"], by decide +kernel, rfl⟩
    · exact ⟨["f", "g"], by decide +kernel, rfl⟩
  rw [ew]
  have wl := hws.length_le
  simp only [List.length_cons, List.length_nil] at wl
  have eb : ∀ ex : List (Str × Kd), ([(Str.ofString "p", Kd.mark (Str.ofString "a")), (Str.ofString "q", Kd.mark (Str.ofString "b"))] ++ ex).map encB = PyData.tuple [.str (Str.ofString "p"), .tuple [.str (Str.ofString "mark"), .str (Str.ofString "a")]] :: .tuple [.str (Str.ofString "q"), .tuple [.str (Str.ofString "mark"), .str (Str.ofString "b")]] :: ex.map encB := fun ex => rfl
  refine fl_invW (chk := none) PyData.str ws (fun ys e => ∃ (ex : List (Str × Kd)) (lv c n : Int), e = ⟨[some (.obj 0), some (.obj 1), some (.val (.int lv)), none, none], [some (.l [.int c, .int n]), some (.l (([(Str.ofString "p", Kd.mark (Str.ofString "a")), (Str.ofString "q", Kd.mark (Str.ofString "b"))] ++ ex).map encB))]⟩ ∧ PoolK n ∧ (ex.map (·.1)).Sublist ys ∧ ∀ x ∈ ex, x.2.ok4) (fun _ _ _ => trivial) ?_ ?_ ⟨[], 2, c1, n1, rfl, pn1, List.Sublist.refl _, fun x hx => by cases hx⟩
  · rintro ys v zs e Nx hys ⟨ex, lv, c2, n2, rfl, pn2, hs, ho⟩ hk
    have exl := hs.length_le
    have yl : ys.length ≤ 2 := by
      have := congrArg List.length hys
      rw [List.length_append] at this
      omega
    rw [List.length_map] at exl
    ktr_call "q3" ⟨t_Lrowv8_4, pTake⟩
    refine ⟨pn2, fun m c3 n3 m0 m1 pn3 => ?_⟩
    ktr_call "q3" ⟨t_Lrowv8_3⟩
    split
    · ktr_call "q3" ⟨t_Lrowv8_2, t_Lrowv8_1, pKind⟩
      refine ⟨pn3, by omega, by omega, by omega, ab, rfl, by decide, by decide, fun k c' n' lk ov pn' => ?_⟩
      refine ⟨bigl (by first | omega | (simp only [List.length_cons, List.length_map]; omega)), ?_⟩
      have em : encB (Str.ofString "p", Kd.mark (Str.ofString "a")) :: encB (Str.ofString "q", Kd.mark (Str.ofString "b")) :: (ex.map encB ++ [.tuple [.str v, k.enc]]) = ([(Str.ofString "p", Kd.mark (Str.ofString "a")), (Str.ofString "q", Kd.mark (Str.ofString "b"))] ++ (ex ++ [(v, k)])).map encB := by
        simp only [List.map_append, List.map_cons, List.map_nil, List.cons_append, List.nil_append]
        rfl
      rw [em]
      refine hk ⟨[some (.obj 0), some (.obj 1), some (.val (.int (lv + (1 + m)))), some (.val (.str v)), some (.val (.int (1 + m)))], [some (.l [.int c', .int n']), some (.l (([(Str.ofString "p", Kd.mark (Str.ofString "a")), (Str.ofString "q", Kd.mark (Str.ofString "b"))] ++ (ex ++ [(v, k)])).map encB))]⟩ 2 [3, 4] (Nat.le_refl _) ⟨ex ++ [(v, k)], lv + (1 + m), c', n', rfl, pn', by rw [List.map_append]; exact List.Sublist.append hs (List.Sublist.refl _), fun x hx => ?_⟩
      rcases List.mem_append.mp hx with hx | hx
      · exact ho x hx
      · rw [List.mem_singleton.mp hx]
        exact ⟨ov, by simp only; omega⟩
    · refine hk _ 2 [3, 4] (Nat.le_refl _) ⟨ex, lv, c3, n3, rfl, pn3, hs.trans (List.sublist_append_left _ _), ho⟩
  · rintro e ⟨ex, lv, c2, n2, rfl, pn2, hs, ho⟩
    ktr_call "q3" ⟨t_Lrowv8_5⟩
    exact q _ c2 n2 (row_of hs hws ho) pn2
structure OkP (d : D) : Prop where
  t : okT d
  can : PyData.canLay0 d = true
  dep : PyData.depth d ≤ 10
theorem OkP.lst {ds : List D} (h : OkP (.list ds)) : PyData.canLayAll0 ds = true ∧ PyData.depthAll ds ≤ 10 ∧ okTs ds := by
  have h1 := h.can
  have h2 := h.dep
  have h3 := h.t
  rw [can_lst] at h1
  rw [depth_lst] at h2
  unfold okT at h3
  exact ⟨h1, by omega, h3.2⟩
theorem OkP.shp {d : D} (h : OkP d) : Vl.shp d = true := by
  unfold Vl.shp
  rw [h.can, decide_eq_true (by have := h.dep; omega)]
  rfl
def t_sizeof_1 (p_programsin : VSp) : VTS := (vAug (fun a b => a + b) 1 (vC (.int 1)))
def t_sizeof_2 (p_programsin : VSp) : VTS := (vDrop (vM "list" opExtend (vVar 2) (vCons (vN (opCallK ownD p_programsin) (vCons (vVar 3) vNil)) vNil)))
def t_sizeof_3 (p_programsin : VSp) : VTS := vSeq (vIfS (vTest (v2 (xEq false) (v2 xIx (vVar 3) (vC (.int 0))) (vC (.str "name")))) (t_sizeof_1 p_programsin) vNext) (t_sizeof_2 p_programsin)
def t_sizeof_4 (p_programsin : VSp) : VTS := vSeq (vSet 3 (vM0 "list" xPop (vVar 2))) (t_sizeof_3 p_programsin)
def t_sizeof_5 (p_programsin : VSp) : VTS := (vRet (vVar 1))
def t_sizeof_6 (p_programsin : VSp) : VTS := vSeq (vWhileW (vTruth (vVar 2))
      (t_sizeof_4 p_programsin)) (t_sizeof_5 p_programsin)
def t_sizeof_7 (p_programsin : VSp) : VTS := vSeq (vSet 2 (vN opLstO (vCons (vVar 0) vNil))) (t_sizeof_6 p_programsin)
def t_sizeof_8 (p_programsin : VSp) : VTS := vSeq (vSet 1 (vC (.int 0))) (t_sizeof_7 p_programsin)
def t_sizeof (p_programsin : VSp) : VTS := (t_sizeof_8 p_programsin)
abbrev Nf := Str → Option Nat
def putN (f : Nf) (x : Str) (t : Nat) : Nf := fun z => if z = x then some t else f z
def rep : Pg → List Nat → Pg → Pg
  | _, [], o => o
  | .take x κ q, 0 :: pl, o => .take x κ (rep q pl o)
  | .give p q, 0 :: pl, o => .give (rep p pl o) q
  | .give p q, 1 :: pl, o => .give p (rep q pl o)
  | .pair p q, 0 :: pl, o => .pair (rep p pl o) q
  | .pair p q, 1 :: pl, o => .pair p (rep q pl o)
  | .first p, 0 :: pl, o => .first (rep p pl o)
  | .second p, 0 :: pl, o => .second (rep p pl o)
  | p, _ :: _, _ => p
/-- what is known behind the binders on the way -/
def wkN : Nf × Nat → Pg → List Nat → Nf × Nat
  | s, _, [] => s
  | (f, t), .take x _ q, 0 :: pl => wkN (putN f x t, t + 1) q pl
  | s, .give p _, 0 :: pl => wkN s p pl
  | s, .give _ q, 1 :: pl => wkN s q pl
  | s, .pair p _, 0 :: pl => wkN s p pl
  | s, .pair _ q, 1 :: pl => wkN s q pl
  | s, .first p, 0 :: pl => wkN s p pl
  | s, .second p, 0 :: pl => wkN s p pl
  | s, _, _ :: _ => s
/-- the numbers of the takes of a scope -/
noncomputable def std (n : Nat) : Nf := fun z => nmAt [] z |>.bind fun i => if i < n then some i else none
theorem wk_nil (s : Nf × Nat) (p : Pg) : wkN s p [] = s := by cases p <;> rfl
theorem rep_nil (p o : Pg) : rep p [] o = o := by cases p <;> rfl
theorem prt_nil (p : Pg) : p.prt [] = some p := by unfold Pg.prt; rfl
/-- a way into a part, step by step: what the part is, and what the walk and the replacing do -/
theorem prt_cons {p q : Pg} {i : Nat} {pl : List Nat} (h : p.prt (i :: pl) = some q) : ∃ c, p.inn[i]? = some c ∧ c.prt pl = some q ∧ (∀ o, (rep p (i :: pl) o).inn[i]? = some (rep c pl o)) ∧ (∀ o, ∃ s' : Nf × Nat → Nf × Nat, (∀ s e, wkN s p (i :: e) = wkN (s' s) c e) ∧ ∀ s e, wkN s (rep p (i :: pl) o) (i :: e) = wkN (s' s) (rep c pl o) e) ∧ (∀ o o', rep (rep p (i :: pl) o) (i :: pl) o' = rep p (i :: pl) o' ∨ rep (rep c pl o) pl o' ≠ rep c pl o') ∧ ∀ o d, rep p (i :: (pl ++ d)) o = rep p (i :: pl) (match c.prt pl with | some z => rep z d o | none => o) ∨ rep c (pl ++ d) o ≠ rep c pl (match c.prt pl with | some z => rep z d o | none => o) := by
  unfold Pg.prt at h
  cases hi : p.inn[i]? with
  | none =>
    rw [hi] at h
    cases h
  | some c =>
    rw [hi] at h
    refine ⟨c, rfl, h, ?_⟩
    cases p with
    | name x => simp [Pg.inn] at hi
    | thing => simp [Pg.inn] at hi
    | take x κ a =>
      rcases i with _ | i
      · simp only [Pg.inn, List.getElem?_cons_zero, Option.some.injEq] at hi
        subst hi
        refine ⟨fun o => rfl, fun o => ⟨fun s => (putN s.1 x s.2, s.2 + 1), fun s e => rfl, fun s e => rfl⟩, fun o o' => ?_, fun o d => ?_⟩
        · by_cases e : rep (rep a pl o) pl o' = rep a pl o'
          · exact .inl (by simp only [rep, e])
          · exact .inr e
        · by_cases e : rep a (pl ++ d) o = rep a pl (match a.prt pl with | some z => rep z d o | none => o)
          · exact .inl (by simp only [rep, e])
          · exact .inr e
      · simp [Pg.inn] at hi
    | first a =>
      rcases i with _ | i
      · simp only [Pg.inn, List.getElem?_cons_zero, Option.some.injEq] at hi
        subst hi
        refine ⟨fun o => rfl, fun o => ⟨fun s => s, fun s e => rfl, fun s e => rfl⟩, fun o o' => ?_, fun o d => ?_⟩
        · by_cases e : rep (rep a pl o) pl o' = rep a pl o'
          · exact .inl (by simp only [rep, e])
          · exact .inr e
        · by_cases e : rep a (pl ++ d) o = rep a pl (match a.prt pl with | some z => rep z d o | none => o)
          · exact .inl (by simp only [rep, e])
          · exact .inr e
      · simp [Pg.inn] at hi
    | second a =>
      rcases i with _ | i
      · simp only [Pg.inn, List.getElem?_cons_zero, Option.some.injEq] at hi
        subst hi
        refine ⟨fun o => rfl, fun o => ⟨fun s => s, fun s e => rfl, fun s e => rfl⟩, fun o o' => ?_, fun o d => ?_⟩
        · by_cases e : rep (rep a pl o) pl o' = rep a pl o'
          · exact .inl (by simp only [rep, e])
          · exact .inr e
        · by_cases e : rep a (pl ++ d) o = rep a pl (match a.prt pl with | some z => rep z d o | none => o)
          · exact .inl (by simp only [rep, e])
          · exact .inr e
      · simp [Pg.inn] at hi
    | give a b =>
      rcases i with _ | _ | i
      · simp only [Pg.inn, List.getElem?_cons_zero, Option.some.injEq] at hi
        subst hi
        refine ⟨fun o => rfl, fun o => ⟨fun s => s, fun s e => rfl, fun s e => rfl⟩, fun o o' => ?_, fun o d => ?_⟩
        · by_cases e : rep (rep a pl o) pl o' = rep a pl o'
          · exact .inl (by simp only [rep, e])
          · exact .inr e
        · by_cases e : rep a (pl ++ d) o = rep a pl (match a.prt pl with | some z => rep z d o | none => o)
          · exact .inl (by simp only [rep, e])
          · exact .inr e
      · simp only [Pg.inn, Nat.zero_add, List.getElem?_cons_succ, List.getElem?_cons_zero, Option.some.injEq] at hi
        subst hi
        refine ⟨fun o => rfl, fun o => ⟨fun s => s, fun s e => rfl, fun s e => rfl⟩, fun o o' => ?_, fun o d => ?_⟩
        · by_cases e : rep (rep b pl o) pl o' = rep b pl o'
          · exact .inl (by show Pg.give a (rep (rep b pl o) pl o') = Pg.give a (rep b pl o'); rw [e])
          · exact .inr e
        · by_cases e : rep b (pl ++ d) o = rep b pl (match b.prt pl with | some z => rep z d o | none => o)
          · exact .inl (by show Pg.give a (rep b (pl ++ d) o) = Pg.give a (rep b pl _); rw [e])
          · exact .inr e
      · simp [Pg.inn] at hi
    | pair a b =>
      rcases i with _ | _ | i
      · simp only [Pg.inn, List.getElem?_cons_zero, Option.some.injEq] at hi
        subst hi
        refine ⟨fun o => rfl, fun o => ⟨fun s => s, fun s e => rfl, fun s e => rfl⟩, fun o o' => ?_, fun o d => ?_⟩
        · by_cases e : rep (rep a pl o) pl o' = rep a pl o'
          · exact .inl (by simp only [rep, e])
          · exact .inr e
        · by_cases e : rep a (pl ++ d) o = rep a pl (match a.prt pl with | some z => rep z d o | none => o)
          · exact .inl (by simp only [rep, e])
          · exact .inr e
      · simp only [Pg.inn, Nat.zero_add, List.getElem?_cons_succ, List.getElem?_cons_zero, Option.some.injEq] at hi
        subst hi
        refine ⟨fun o => rfl, fun o => ⟨fun s => s, fun s e => rfl, fun s e => rfl⟩, fun o o' => ?_, fun o d => ?_⟩
        · by_cases e : rep (rep b pl o) pl o' = rep b pl o'
          · exact .inl (by show Pg.pair a (rep (rep b pl o) pl o') = Pg.pair a (rep b pl o'); rw [e])
          · exact .inr e
        · by_cases e : rep b (pl ++ d) o = rep b pl (match b.prt pl with | some z => rep z d o | none => o)
          · exact .inl (by show Pg.pair a (rep b (pl ++ d) o) = Pg.pair a (rep b pl _); rw [e])
          · exact .inr e
      · simp [Pg.inn] at hi
theorem prt_in {p c : Pg} {i : Nat} (h : p.inn[i]? = some c) (pl : List Nat) : p.prt (i :: pl) = c.prt pl := by
  rw [Pg.prt, h]
theorem rep_rep : ∀ (pl : List Nat) {p q : Pg}, p.prt pl = some q → ∀ o o', rep (rep p pl o) pl o' = rep p pl o'
  | [], p, q, _, o, o' => by rw [rep_nil, rep_nil]
  | i :: pl, p, q, h, o, o' => by
    obtain ⟨c, h1, h2, _, _, h5, _⟩ := prt_cons h
    exact (h5 o o').resolve_right fun z => z (rep_rep pl h2 o o')
theorem wk_rep : ∀ (pl : List Nat) {p q : Pg}, p.prt pl = some q → ∀ s o d, wkN s (rep p pl o) (pl ++ d) = wkN (wkN s p pl) o d
  | [], p, q, h, s, o, d => by rw [List.nil_append, rep_nil, wk_nil]
  | i :: pl, p, q, h, s, o, d => by
    obtain ⟨c, h1, h2, _, h4, _⟩ := prt_cons h
    obtain ⟨s', g1, g2⟩ := h4 o
    rw [List.cons_append, g2, g1]
    exact wk_rep pl h2 _ o d
theorem prt_rep : ∀ (pl : List Nat) {p q : Pg}, p.prt pl = some q → ∀ o d, (rep p pl o).prt (pl ++ d) = o.prt d
  | [], p, q, h, o, d => by rw [List.nil_append, rep_nil]
  | i :: pl, p, q, h, o, d => by
    obtain ⟨c, h1, h2, h3, _⟩ := prt_cons h
    rw [List.cons_append, prt_in (h3 o)]
    exact prt_rep pl h2 o d
def nmc : Pg → Nat
  | .name _ => 1
  | .take _ _ p => nmc p
  | .give p q => nmc p + nmc q
  | .pair p q => nmc p + nmc q
  | .first p => nmc p
  | .second p => nmc p
  | .thing => 0
/-- a mark's place with its scope -/
structure RepAt (r : List (Str × Kd)) (bb : Bool) (T : List Kd) (k : Kd) (p : Pg) (ms : List Mk) (pl : List Nat) (m : Str) (V : List Kd) (q : Pg) (msq : List Mk) : Prop where
  prt : p.prt pl = some q
  lg : Lg r false (T ++ V) (.mark m) q msq
  wk : wkN (std T.length, T.length) p pl = (std (T ++ V).length, (T ++ V).length)
  lk : ∀ e, lkM ms (toI (pl ++ e)) = lkM msq (toI e)
  rp : ∀ (o : Pg) (mso : List Mk), Lg r false (T ++ V) (.mark m) o mso → ∃ ms', Lg r bb T k (rep p pl o) ms' ∧ (∀ a rest, pl = a ++ rest → lkM ms' (toI a) = lkM ms (toI a)) ∧ ∀ e, lkM ms' (toI (pl ++ e)) = lkM mso (toI e)
/-- after the replacing -/
theorem RepAt.put {r : List (Str × Kd)} {bb : Bool} {T : List Kd} {k : Kd} {p : Pg} {ms : List Mk} {pl : List Nat} {m : Str} {V : List Kd} {q : Pg} {msq : List Mk} (h : RepAt r bb T k p ms pl m V q msq) {o : Pg} {mso : List Mk} (ho : Lg r false (T ++ V) (.mark m) o mso) : ∃ ms', Lg r bb T k (rep p pl o) ms' ∧ (∀ a rest, pl = a ++ rest → lkM ms' (toI a) = lkM ms (toI a)) ∧ RepAt r bb T k (rep p pl o) ms' pl m V o mso := by
  obtain ⟨ms', h1, h2, h3⟩ := h.rp o mso ho
  have hp := prt_rep pl h.prt o []
  rw [List.append_nil, prt_nil] at hp
  have hw := wk_rep pl h.prt (std T.length, T.length) o []
  rw [List.append_nil, wk_nil, h.wk] at hw
  refine ⟨ms', h1, h2, hp, ho, hw, h3, fun o' mso' ho' => ?_⟩
  obtain ⟨m2, a1, a2, a3⟩ := h.rp o' mso' ho'
  exact ⟨m2, by rw [rep_rep pl h.prt]; exact a1, fun a rest e => (a2 a rest e).trans (h2 a rest e).symm, a3⟩
def nmcs : List Pg → Nat
  | [] => 0
  | p :: r => nmc p + nmcs r
theorem nmcs_app : ∀ a b, nmcs (a ++ b) = nmcs a + nmcs b
  | [], b => by simp [nmcs]
  | p :: a, b => by
    rw [List.cons_append, nmcs, nmcs, nmcs_app a b]
    omega
def szPs : List Pg → Nat
  | [] => 0
  | p :: r => p.size + szPs r
theorem szPs_app : ∀ a b, szPs (a ++ b) = szPs a + szPs b
  | [], b => by simp [szPs]
  | p :: a, b => by
    rw [List.cons_append, szPs, szPs, szPs_app a b]
    omega
theorem szPs_len : ∀ a : List Pg, a.length ≤ szPs a
  | [] => Nat.le_refl _
  | p :: a => by
    have := szPs_len a
    have := p.size_pos
    simp only [szPs, List.length_cons]
    omega
theorem inn_szPs (p : Pg) : szPs p.inn + 1 = p.size := by cases p <;> simp only [Pg.inn, szPs, Pg.size] <;> omega
theorem nmc_size : ∀ p : Pg, nmc p ≤ p.size
  | .name _ => Nat.le_refl _
  | .take _ _ p => by have := nmc_size p; simp only [nmc, Pg.size]; omega
  | .give p q => by have := nmc_size p; have := nmc_size q; simp only [nmc, Pg.size]; omega
  | .pair p q => by have := nmc_size p; have := nmc_size q; simp only [nmc, Pg.size]; omega
  | .first p => by have := nmc_size p; simp only [nmc, Pg.size]; omega
  | .second p => by have := nmc_size p; simp only [nmc, Pg.size]; omega
  | .thing => Nat.zero_le _
def pSz : VSp := fun ss st Kp => ∃ p : Pg, p.size ≤ 1000000 ∧ ss = [.val p.enc] ∧ st = [] ∧ Kp (.val (.int (nmc p : Nat))) []
theorem r_sz {ss cs Kp} (h : pSz ss cs Kp) : t_sizeof pIn (dV cs.length Kp) ⟨startV 4 ss, cs.map some⟩ := by
  obtain ⟨p, ps, rfl, rfl, q⟩ := h
  ktr_call "q4" ⟨t_sizeof, t_sizeof_8, t_sizeof_7, t_sizeof_6⟩
  refine while_invW (fun n e => ∃ (todo : List Pg) (c : Nat) (x : Option Sl), e = ⟨[some (.val p.enc), some (.val (.int (c : Nat))), some (.obj 0), x], [some (.l (todo.map Pg.enc))]⟩ ∧ n = szPs todo ∧ szPs todo ≤ p.size ∧ c + nmcs todo = nmc p) ?_ (m := szPs [p]) ⟨[p], 0, none, rfl, rfl, by simp [szPs], by simp [nmcs]⟩
  rintro n e Nx ⟨todo, c, x, rfl, rfl, hs, hc⟩ hk
  rcases List.eq_nil_or_concat todo with rfl | ⟨ts, t, rfl⟩
  · ktr_call "q4" ⟨t_sizeof_5, List.isEmpty_nil, List.map_nil⟩
    simp only [nmcs, Nat.add_zero] at hc
    rw [hc]
    exact q
  · rw [List.concat_eq_append] at *
    have ne : ((ts ++ [t]).map Pg.enc).isEmpty = false := by simp
    have gl : ((ts ++ [t]).map Pg.enc).getLast? = some t.enc := by simp
    have dl : ((ts ++ [t]).map Pg.enc).dropLast = ts.map Pg.enc := by simp
    have is := inn_szPs t
    have tl := szPs_len ts
    have il := szPs_len t.inn
    rw [szPs_app] at hs
    rw [nmcs_app] at hc
    simp only [szPs, nmcs] at hs hc
    have lt' : (ts.map Pg.enc).length = ts.length := List.length_map _
    have li : (t.inn.map Pg.enc).length = t.inn.length := List.length_map _
    have fin : ∀ c' : Nat, c' + nmcs t.inn = c + nmc t → t_sizeof_2 pIn { nx := Nx, rt := (dV 0 Kp).rt, bk := t_sizeof_5 pIn (dV 0 Kp), ct := Nx, ex := (dV 0 Kp).ex } ⟨[some (.val p.enc), some (.val (.int (c' : Nat))), some (.obj 0), some (.val t.enc)], [some (.l (ts.map Pg.enc))]⟩ := fun c' hc' => by
      ktr_call "q4" ⟨t_sizeof_2⟩
      refine ⟨t, rfl, rfl, ?_⟩
      ktr_call "q4" ⟨lt', li⟩
      refine ⟨big (by omega), ?_⟩
      rw [← List.map_append]
      exact hk (szPs (ts ++ t.inn)) ⟨[some (.val p.enc), some (.val (.int (c' : Nat))), some (.obj 0), some (.val t.enc)], [some (.l ((ts ++ t.inn).map Pg.enc))]⟩ 1 [3] (by rw [szPs_app, szPs_app]; simp only [szPs]; omega) (Nat.le_refl _) ⟨ts ++ t.inn, c', none, rfl, rfl, by rw [szPs_app]; omega, by rw [nmcs_app]; omega⟩
    ktr_call "q4" ⟨ne, gl, dl, t_sizeof_4⟩
    cases t with
    | name x =>
      have := fin (c + 1) (by simp [Pg.inn, nmcs, nmc])
      simp only [Pg.enc] at this
      ktr_call "q4" ⟨t_sizeof_3, t_sizeof_1, Pg.enc⟩
      exact this
    | take x κ a =>
      have := fin c (by simp [Pg.inn, nmcs, nmc])
      simp only [Pg.enc] at this
      ktr_call "q4" ⟨t_sizeof_3, Pg.enc⟩
      rw [vNext_mk]
      exact this
    | give a b =>
      have := fin c (by simp [Pg.inn, nmcs, nmc])
      simp only [Pg.enc] at this
      ktr_call "q4" ⟨t_sizeof_3, Pg.enc⟩
      rw [vNext_mk]
      exact this
    | pair a b =>
      have := fin c (by simp [Pg.inn, nmcs, nmc])
      simp only [Pg.enc] at this
      ktr_call "q4" ⟨t_sizeof_3, Pg.enc⟩
      rw [vNext_mk]
      exact this
    | first a =>
      have := fin c (by simp [Pg.inn, nmcs, nmc])
      simp only [Pg.enc] at this
      ktr_call "q4" ⟨t_sizeof_3, Pg.enc⟩
      rw [vNext_mk]
      exact this
    | second a =>
      have := fin c (by simp [Pg.inn, nmcs, nmc])
      simp only [Pg.enc] at this
      ktr_call "q4" ⟨t_sizeof_3, Pg.enc⟩
      rw [vNext_mk]
      exact this
    | thing =>
      have := fin c (by simp [Pg.inn, nmcs, nmc])
      simp only [Pg.enc] at this
      ktr_call "q4" ⟨t_sizeof_3, Pg.enc⟩
      rw [vNext_mk]
      exact this
def kGd (M : List Str) (k : Kd) : Prop := k.over M ∧ kdOk k
theorem kGd.to {M : List Str} {a b : Kd} (h : kGd M (.to a b)) : kGd M a ∧ kGd M b := by
  obtain ⟨h1, h2, h3⟩ := h
  simp only [Kd.leaves, Kd.deep] at h2 h3
  exact ⟨⟨h1.1, by omega, by omega⟩, h1.2, by omega, by omega⟩
theorem kGd.both {M : List Str} {a b : Kd} (h : kGd M (.both a b)) : kGd M a ∧ kGd M b := by
  obtain ⟨h1, h2, h3⟩ := h
  simp only [Kd.leaves, Kd.deep] at h2 h3
  exact ⟨⟨h1.1, by omega, by omega⟩, h1.2, by omega, by omega⟩
theorem kGd.ok {M : List Str} {k : Kd} (h : kGd M k) : kOk M k := ⟨h.1, by have := nodes_lv k; have := h.2.1; omega, by have := h.2.2; omega⟩
theorem kGd.can {M : List Str} (hM : okM M) {k : Kd} (h : kGd M k) : k.enc.canLay0 = true := k.can_enc (fun m hm => (hM m hm).2.2) h.1
theorem kGd.dep {M : List Str} {k : Kd} (h : kGd M k) : k.enc.depth ≤ 13 := by rw [k.depth_enc]; have := h.2.2; omega
theorem kGd.shp {M : List Str} (hM : okM M) {k : Kd} (h : kGd M k) : Vl.shp k.enc = true := h.ok.shp hM
/-- names and kinds as they may be -/
def Pg.lk (M : List Str) : Pg → Prop
  | .name x => PyData.strOk x = true
  | .take x k p => PyData.strOk x = true ∧ kGd M k ∧ p.lk M
  | .give p q => p.lk M ∧ q.lk M
  | .pair p q => p.lk M ∧ q.lk M
  | .first p => p.lk M
  | .second p => p.lk M
  | .thing => True
theorem Pg.lk.ov {M : List Str} : ∀ {p : Pg}, p.lk M → p.ov M
  | .name _, _ => trivial
  | .take _ _ p, h => ⟨h.2.1.ok, Pg.lk.ov (p := p) h.2.2⟩
  | .give p q, h => ⟨Pg.lk.ov (p := p) h.1, Pg.lk.ov (p := q) h.2⟩
  | .pair p q, h => ⟨Pg.lk.ov (p := p) h.1, Pg.lk.ov (p := q) h.2⟩
  | .first p, h => Pg.lk.ov (p := p) h
  | .second p, h => Pg.lk.ov (p := p) h
  | .thing, _ => trivial
theorem Pg.can_lk {M : List Str} (hM : okM M) : ∀ p : Pg, p.lk M → p.enc.canLay0 = true
  | .name x, h => by
    have h' : PyData.strOk x = true := h
    simp only [Pg.enc, can_tup, canAll_cons, canAll_nil, can_str, h']
    decide +kernel
  | .take x k p, ⟨h1, h2, h3⟩ => by
    simp only [Pg.enc, can_tup, canAll_cons, canAll_nil, can_str, h1, h2.can hM, p.can_lk hM h3]
    decide +kernel
  | .give p q, ⟨h1, h2⟩ => by
    simp only [Pg.enc, can_tup, canAll_cons, canAll_nil, can_str, p.can_lk hM h1, q.can_lk hM h2]
    decide +kernel
  | .pair p q, ⟨h1, h2⟩ => by
    simp only [Pg.enc, can_tup, canAll_cons, canAll_nil, can_str, p.can_lk hM h1, q.can_lk hM h2]
    decide +kernel
  | .first p, h => by
    have h' : p.lk M := h
    simp only [Pg.enc, can_tup, canAll_cons, canAll_nil, can_str, p.can_lk hM h']
    decide +kernel
  | .second p, h => by
    have h' : p.lk M := h
    simp only [Pg.enc, can_tup, canAll_cons, canAll_nil, can_str, p.can_lk hM h']
    decide +kernel
  | .thing, _ => by
    simp only [Pg.enc, can_tup, canAll_cons, canAll_nil, can_str]
    decide +kernel
theorem Pg.depth_lk {M : List Str} : ∀ p : Pg, p.lk M → p.enc.depth ≤ p.deep + 14
  | .name x, h => by
    simp only [Pg.enc, depth_tup, depthAll_cons, depthAll_nil, depth_str, Pg.deep]
    omega
  | .take x k p, ⟨h1, h2, h3⟩ => by
    have := p.depth_lk h3
    have := h2.dep
    simp only [Pg.enc, depth_tup, depthAll_cons, depthAll_nil, depth_str, Pg.deep]
    omega
  | .give p q, ⟨h1, h2⟩ => by
    have := p.depth_lk h1
    have := q.depth_lk h2
    simp only [Pg.enc, depth_tup, depthAll_cons, depthAll_nil, depth_str, Pg.deep]
    omega
  | .pair p q, ⟨h1, h2⟩ => by
    have := p.depth_lk h1
    have := q.depth_lk h2
    simp only [Pg.enc, depth_tup, depthAll_cons, depthAll_nil, depth_str, Pg.deep]
    omega
  | .first p, h => by
    have h' : p.lk M := h
    have := p.depth_lk h'
    simp only [Pg.enc, depth_tup, depthAll_cons, depthAll_nil, depth_str, Pg.deep]
    omega
  | .second p, h => by
    have h' : p.lk M := h
    have := p.depth_lk h'
    simp only [Pg.enc, depth_tup, depthAll_cons, depthAll_nil, depth_str, Pg.deep]
    omega
  | .thing, _ => by
    simp only [Pg.enc, depth_tup, depthAll_cons, depthAll_nil, depth_str, Pg.deep]
    omega
theorem Pg.shp_lk {M : List Str} (hM : okM M) {p : Pg} (h : p.lk M) (d : p.deep ≤ 150) : Vl.shp p.enc = true := by
  have := p.depth_lk h
  unfold Vl.shp
  rw [p.can_lk hM h, decide_eq_true (by omega)]
  rfl
structure KnM (M : List Str) (r : List (Str × Kd)) (T : List Kd) : Prop where
  ro : RowOk M r
  kd : ∀ x ∈ kwn r T, kGd M x.2
  len : r.length ≤ 10
theorem KnM.snoc {M : List Str} {r : List (Str × Kd)} {T : List Kd} {a : Kd} (h : KnM M r T) (ha : kGd M a) : KnM M r (T ++ [a]) := ⟨h.ro, fun x hx => by
  rw [kwn_snoc] at hx
  rcases List.mem_append.mp hx with hx | hx
  · exact h.kd x hx
  · rw [List.mem_singleton.mp hx]
    exact ha, h.len⟩
theorem kwn_back {M : List Str} {r : List (Str × Kd)} (ro : RowOk M r) {T : List Kd} {x : Str} {i : Nat} {k : Kd} (h1 : nmAt (r.map (·.1)) x = some i) (h2 : (r.map (·.2) ++ T)[i]? = some k) : (x, k) ∈ kwn r T := by
  unfold kwn
  by_cases hx : x ∈ r.map (·.1)
  · rw [nmAt_in hx] at h1
    cases h1
    have hl : (r.map (·.1)).idxOf x < (r.map (·.1)).length := List.idxOf_lt_length_of_mem hx
    rw [List.length_map] at hl
    rw [List.getElem?_append_left (by rw [List.length_map]; exact hl), List.getElem?_map] at h2
    obtain ⟨y, hy, rfl⟩ := Option.map_eq_some_iff.mp h2
    have e : y.1 = x := by
      have e1 : (r.map (·.1))[(r.map (·.1)).idxOf x]? = some y.1 := by rw [List.getElem?_map, hy]; rfl
      have e2 : (r.map (·.1))[(r.map (·.1)).idxOf x]? = some x := by
        rw [List.getElem?_eq_getElem (by rw [List.length_map]; exact hl)]
        exact congrArg some (List.getElem_idxOf (by rw [List.length_map]; exact hl))
      rw [e1] at e2
      exact Option.some.inj e2
    refine List.mem_append_left _ ?_
    rw [← e]
    exact List.mem_of_getElem? hy
  · by_cases hk : ∃ j, x = xN j
    · obtain ⟨j, rfl⟩ := hk
      rw [nmAt_x hx, List.length_map] at h1
      cases h1
      rw [List.getElem?_append_right (by rw [List.length_map]; omega), List.length_map, show r.length + j - r.length = j by omega] at h2
      refine List.mem_append_right _ ?_
      have tk : ∀ (T : List Kd) (i j : Nat), T[j]? = some k → (xN (i + j), k) ∈ tkn i T := fun T => by
        induction T with
        | nil => intro i j h; simp at h
        | cons a T ih =>
          intro i j h
          cases j with
          | zero =>
            simp only [List.getElem?_cons_zero, Option.some.injEq] at h
            subst h
            exact List.mem_cons_self
          | succ j =>
            simp only [List.getElem?_cons_succ] at h
            have := ih (i + 1) j h
            rw [show i + 1 + j = i + (j + 1) by omega] at this
            exact List.mem_cons_of_mem _ this
      have := tk T 0 j h2
      rwa [Nat.zero_add] at this
    · rw [nmAt_no hx (fun j e => hk ⟨j, e⟩)] at h1
      cases h1
theorem spA_gd {M : List Str} {r : List (Str × Kd)} {T : List Kd} (ko : KnM M r T) : ∀ {p : Pg} {k : Kd} {y : Nat × Nat × List Spt}, spA (r.map (·.1)) p (r.map (·.2) ++ T) = some (k, y) → kGd M k
  | .name x, k, y, h => by
    have h' : ((nmAt (r.map (·.1)) x).bind fun i => ((r.map (·.2) ++ T)[i]?).map fun k => (k, i, 0, ([] : List Spt))) = some (k, y) := h
    obtain ⟨i, h1, h2⟩ := Option.bind_eq_some_iff.mp h'
    obtain ⟨k', h3, h4⟩ := Option.map_eq_some_iff.mp h2
    cases h4
    exact ko.kd _ (kwn_back ko.ro h1 h3)
  | .first q, k, y, h => by
    have h' : (match spA (r.map (·.1)) q (r.map (·.2) ++ T) with
      | some (.both a _, i, w, L) => some (a, i, w, L)
      | _ => none) = some (k, y) := h
    split at h'
    · rename_i a b i w L hq
      cases h'
      exact (spA_gd ko hq).both.1
    · cases h'
  | .second q, k, y, h => by
    have h' : (match spA (r.map (·.1)) q (r.map (·.2) ++ T) with
      | some (.both a b, i, w, L) => some (b, i, w + a.nways, L)
      | _ => none) = some (k, y) := h
    split at h'
    · rename_i a b i w L hq
      cases h'
      exact (spA_gd ko hq).both.2
    · cases h'
  | .give q g, k, y, h => by
    have h' : (match spA (r.map (·.1)) q (r.map (·.2) ++ T) with
      | some (.to a b, i, w, L) => (spB (r.map (·.1)) g (r.map (·.2) ++ T) a).map fun L' => (b, i, w, L ++ L')
      | _ => none) = some (k, y) := h
    split at h'
    · rename_i a b i w L hq
      obtain ⟨L', h3, h4⟩ := Option.map_eq_some_iff.mp h'
      cases h4
      exact (spA_gd ko hq).to.2
    · cases h'
  | .pair _ _, k, y, h => by cases h
  | .take _ _ _, k, y, h => by cases h
  | .thing, k, y, h => by cases h
def encA (o : Option (Kd × Nat × Nat × List Spt)) : D := match o with
  | some (k, _) => k.enc
  | none => noneD
def pLiG (M : List Str) (N : Nat) : VSp := fun ss st Kp => ∃ (r : List (Str × Kd)) (T : List Kd) (k : Kd) (p : Pg), KnM M r T ∧ kGd M k ∧ p.lk M ∧ p.deep ≤ 150 ∧ T.length + p.deep ≤ 300 ∧ 2 * p.deep + 2 ≤ N ∧ ss = [.val (.list ((kwn r T).map encB)), .val k.enc, .val p.enc, .val (.int (T.length : Nat))] ∧ st = [] ∧ Kp (.val (.bool (spB (r.map (·.1)) p (r.map (·.2) ++ T) k).isSome)) []
def pAlG (M : List Str) (N : Nat) : VSp := fun ss st Kp => ∃ (r : List (Str × Kd)) (T : List Kd) (p : Pg), KnM M r T ∧ p.lk M ∧ p.deep ≤ 150 ∧ T.length + p.deep ≤ 300 ∧ 2 * p.deep + 1 ≤ N ∧ ss = [.val (.list ((kwn r T).map encB)), .val p.enc, .val (.int (T.length : Nat))] ∧ st = [] ∧ Kp (.val (encA (spA (r.map (·.1)) p (r.map (·.2) ++ T)))) []
theorem r_AlG {M : List Str} {N : Nat} {ss cs Kp} (h : pAlG M (N + 1) ss cs Kp) : t_Lalong (pAlG M N) (pLiG M N) (dV cs.length Kp) ⟨startV 5 ss, cs.map some⟩ := by
  obtain ⟨r, T, p, ko, pl, pd, hd, hN, rfl, rfl, q⟩ := h
  cases p with
  | name x =>
    have e : spA (r.map (·.1)) (.name x) (r.map (·.2) ++ T) = ((nmAt (r.map (·.1)) x).bind fun i => ((r.map (·.2) ++ T)[i]?).map fun k => (k, i, 0, ([] : List Spt))) := rfl
    ktr_call "q4" ⟨t_Lalong, t_Lalong_10, t_Lalong_1, Pg.enc, vOrG⟩
    refine cl_fm (chk := none) encB (fun y => y.2.enc) (fun y => decide (y.1 = x)) (kwn r T) (by have := ko.len; have := kwn_len r T; omega) True.intro ?_ ?_
    · intro y hy Ky Kn h1 h2
      ktr_call "q4" ⟨encB⟩
      by_cases hx : y.1 = x
      · rw [if_pos hx]
        exact h1 (decide_eq_true hx) _ rfl
      · rw [if_neg hx]
        exact h2 (decide_eq_false hx) _ rfl
    · by_cases hx : ∃ k, (x, k) ∈ kwn r T
      · obtain ⟨k, hx⟩ := hx
        rw [filter_onek (kwn_names ko.ro T) hx]
        obtain ⟨i, h1, h2⟩ := kwn_at ko.ro hx
        rw [e, h1, Option.bind_some, h2] at q
        ktr_call "q4" ⟨List.map_cons, List.map_nil, opNeg, truOk, truB⟩
        rw [if_pos (show (![k.enc].isEmpty) = true from rfl)]
        exact q
      · have hn : (kwn r T).filter (fun y => decide (y.1 = x)) = [] := by
          rw [List.filter_eq_nil_iff]
          rintro ⟨z, k⟩ hz hd
          exact hx ⟨k, by rw [← of_decide_eq_true hd]; exact hz⟩
        have e2 : spA (r.map (·.1)) (.name x) (r.map (·.2) ++ T) = none := by
          rw [e]
          cases h1 : nmAt (r.map (·.1)) x with
          | none => rfl
          | some i =>
            rw [Option.bind_some]
            cases h2 : (r.map (·.2) ++ T)[i]? with
            | none => rfl
            | some k => exact absurd ⟨k, kwn_back ko.ro h1 h2⟩ hx
        rw [hn]
        rw [e2] at q
        ktr_call "q4" ⟨List.map_cons, List.map_nil, opNeg, truOk, truB⟩
        exact q
  | first p' =>
    have e : spA (r.map (·.1)) (.first p') (r.map (·.2) ++ T) = (match spA (r.map (·.1)) p' (r.map (·.2) ++ T) with
      | some (.both a _, i, w, L) => some (a, i, w, L)
      | _ => none) := rfl
    simp only [Pg.deep] at hd hN pd
    ktr_call "q4" ⟨t_Lalong, t_Lalong_10, Pg.enc⟩
    rw [vNext_mk]
    ktr_call "q4" ⟨t_Lalong_9⟩
    refine ⟨⟨by decide +kernel, mvsh⟩, ?_⟩
    rw [vNext_mk]
    ktr_call "q4" ⟨t_Lalong_8⟩
    refine ⟨r, T, p', ko, pl, by omega, by omega, by omega, rfl, rfl, ?_⟩
    rw [e] at q
    cases hs : spA (r.map (·.1)) p' (r.map (·.2) ++ T) with
    | none =>
      rw [hs] at q
      ktr_call "q4" ⟨t_Lalong_7, encA, noneD⟩
      rw [vNext_mk]
      ktr_call "q4" ⟨t_Lalong_6⟩
      rw [vNext_mk]
      ktr_call "q4" ⟨t_Lalong_5⟩
      exact q
    | some y =>
      obtain ⟨k, y⟩ := y
      rw [hs] at q
      cases k with
      | both a b =>
        ktr_call "q4" ⟨t_Lalong_7, encA, Kd.enc⟩
        rw [vNext_mk]
        ktr_call "q4" ⟨t_Lalong_6, t_Lalong_4, opIndex⟩
        refine ⟨⟨by decide +kernel, by decide +kernel⟩, ?_⟩
        rw [show ixD (PyData.str (Str.ofString "first")) [PyData.str (Str.ofString "first"), PyData.str (Str.ofString "second")] = some 0 from by decide +kernel, kOps_some]
        exact q
      | _ =>
        ktr_call "q4" ⟨t_Lalong_7, encA, Kd.enc⟩
        rw [vNext_mk]
        ktr_call "q4" ⟨t_Lalong_6⟩
        rw [vNext_mk]
        ktr_call "q4" ⟨t_Lalong_5⟩
        exact q
  | second p' =>
    have e : spA (r.map (·.1)) (.second p') (r.map (·.2) ++ T) = (match spA (r.map (·.1)) p' (r.map (·.2) ++ T) with
      | some (.both a b, i, w, L) => some (b, i, w + a.nways, L)
      | _ => none) := rfl
    simp only [Pg.deep] at hd hN pd
    ktr_call "q4" ⟨t_Lalong, t_Lalong_10, Pg.enc⟩
    rw [vNext_mk]
    ktr_call "q4" ⟨t_Lalong_9⟩
    refine ⟨⟨by decide +kernel, mvsh⟩, ?_⟩
    rw [vNext_mk]
    ktr_call "q4" ⟨t_Lalong_8⟩
    refine ⟨r, T, p', ko, pl, by omega, by omega, by omega, rfl, rfl, ?_⟩
    rw [e] at q
    cases hs : spA (r.map (·.1)) p' (r.map (·.2) ++ T) with
    | none =>
      rw [hs] at q
      ktr_call "q4" ⟨t_Lalong_7, encA, noneD⟩
      rw [vNext_mk]
      ktr_call "q4" ⟨t_Lalong_6⟩
      rw [vNext_mk]
      ktr_call "q4" ⟨t_Lalong_5⟩
      exact q
    | some y =>
      obtain ⟨k, y⟩ := y
      rw [hs] at q
      cases k with
      | both a b =>
        ktr_call "q4" ⟨t_Lalong_7, encA, Kd.enc⟩
        rw [vNext_mk]
        ktr_call "q4" ⟨t_Lalong_6, t_Lalong_4, opIndex⟩
        refine ⟨⟨by decide +kernel, by decide +kernel⟩, ?_⟩
        rw [show ixD (PyData.str (Str.ofString "second")) [PyData.str (Str.ofString "first"), PyData.str (Str.ofString "second")] = some 1 from by decide +kernel, kOps_some]
        exact q
      | _ =>
        ktr_call "q4" ⟨t_Lalong_7, encA, Kd.enc⟩
        rw [vNext_mk]
        ktr_call "q4" ⟨t_Lalong_6⟩
        rw [vNext_mk]
        ktr_call "q4" ⟨t_Lalong_5⟩
        exact q
  | give p' p2 =>
    have e : spA (r.map (·.1)) (.give p' p2) (r.map (·.2) ++ T) = (match spA (r.map (·.1)) p' (r.map (·.2) ++ T) with
      | some (.to a b, i, w, L) => (spB (r.map (·.1)) p2 (r.map (·.2) ++ T) a).map fun L' => (b, i, w, L ++ L')
      | _ => none) := rfl
    simp only [Pg.deep] at hd hN pd
    ktr_call "q4" ⟨t_Lalong, t_Lalong_10, Pg.enc⟩
    rw [vNext_mk]
    ktr_call "q4" ⟨t_Lalong_9⟩
    refine ⟨⟨by decide +kernel, mvsh⟩, ?_⟩
    rw [vNext_mk]
    ktr_call "q4" ⟨t_Lalong_8⟩
    refine ⟨r, T, p', ko, pl.1, by omega, by omega, by omega, rfl, rfl, ?_⟩
    rw [e] at q
    cases hs : spA (r.map (·.1)) p' (r.map (·.2) ++ T) with
    | none =>
      rw [hs] at q
      ktr_call "q4" ⟨t_Lalong_7, encA, noneD⟩
      rw [vNext_mk]
      ktr_call "q4" ⟨t_Lalong_6⟩
      rw [vNext_mk]
      ktr_call "q4" ⟨t_Lalong_5⟩
      exact q
    | some y =>
      obtain ⟨k, i, w, L⟩ := y
      have kg := spA_gd ko hs
      rw [hs] at q
      cases k with
      | to a b =>
        ktr_call "q4" ⟨t_Lalong_7, encA, Kd.enc⟩
        refine ⟨r, T, a, p2, ko, kg.to.1, pl.2, by omega, by omega, by omega, rfl, rfl, ?_⟩
        simp only at q
        cases hb : spB (r.map (·.1)) p2 (r.map (·.2) ++ T) a with
        | none =>
          rw [hb] at q
          ktr_call "q4" ⟨Option.isSome_none⟩
          rw [vNext_mk]
          ktr_call "q4" ⟨t_Lalong_6⟩
          rw [vNext_mk]
          ktr_call "q4" ⟨t_Lalong_5⟩
          exact q
        | some z =>
          rw [hb] at q
          ktr_call "q4" ⟨Option.isSome_some⟩
          ktr_call "q4" ⟨t_Lalong_3⟩
          exact q
      | _ =>
        ktr_call "q4" ⟨t_Lalong_7, encA, Kd.enc⟩
        rw [vNext_mk]
        ktr_call "q4" ⟨t_Lalong_6⟩
        rw [vNext_mk]
        ktr_call "q4" ⟨t_Lalong_5⟩
        exact q
  | take x κ p' =>
    ktr_call "q4" ⟨t_Lalong, t_Lalong_10, Pg.enc⟩
    rw [vNext_mk]
    ktr_call "q4" ⟨t_Lalong_9, t_Lalong_2⟩
    exact ⟨⟨by decide +kernel, mvsh⟩, q⟩
  | pair a b =>
    ktr_call "q4" ⟨t_Lalong, t_Lalong_10, Pg.enc⟩
    rw [vNext_mk]
    ktr_call "q4" ⟨t_Lalong_9, t_Lalong_2⟩
    exact ⟨⟨by decide +kernel, mvsh⟩, q⟩
  | thing =>
    ktr_call "q4" ⟨t_Lalong, t_Lalong_10, Pg.enc⟩
    rw [vNext_mk]
    ktr_call "q4" ⟨t_Lalong_9, t_Lalong_2⟩
    exact ⟨⟨by decide +kernel, mvsh⟩, q⟩
theorem shp_tkN {ds : List D} (n : Nat) (h : Vl.shp (.tuple ds) = true) : Vl.shp (.tuple (ds.take n)) = true := by
  unfold Vl.shp at h ⊢
  rw [can_tup, depth_tup, Bool.and_eq_true, decide_eq_true_eq] at h ⊢
  have key : ∀ (ds : List D) (n : Nat), (PyData.canLayAll0 ds = true → PyData.canLayAll0 (ds.take n) = true) ∧ PyData.depthAll (ds.take n) ≤ PyData.depthAll ds := fun ds => by
    induction ds with
    | nil => intro n; simp
    | cons x ds ih =>
      intro n
      cases n with
      | zero =>
        rw [List.take_zero]
        exact ⟨fun _ => canAll_nil, by rw [depthAll_nil]; omega⟩
      | succ n =>
        rw [List.take_succ_cons, canAll_cons, canAll_cons, depthAll_cons, depthAll_cons]
        refine ⟨fun h => ?_, ?_⟩
        · rw [Bool.and_eq_true] at h ⊢
          exact ⟨h.1, (ih n).1 h.2⟩
        · have := (ih n).2
          omega
  exact ⟨(key ds n).1 h.1, by have := (key ds n).2; omega⟩
theorem r_LiG {M : List Str} (hM : okM M) {N : Nat} {ss cs Kp} (h : pLiG M (N + 1) ss cs Kp) : t_Lislong (pAlG M N) (pLiG M N) (dV cs.length Kp) ⟨startV 5 ss, cs.map some⟩ := by
  obtain ⟨r, T, k, p, ko, kk, pl, pd, hd, hN, rfl, rfl, q⟩ := h
  cases k with
  | mark m =>
    ktr_call "q4" ⟨t_Lislong, t_Lislong_12, Kd.enc⟩
    rw [vNext_mk]
    ktr_call "q4" ⟨t_Lislong_11, t_Lislong_2⟩
    refine ⟨r, T, p, ko, pl, by omega, by omega, by omega, rfl, rfl, ?_⟩
    have em : PyData.tuple [PyData.str (Str.ofString "mark"), PyData.str m] = (Kd.mark m).enc := rfl
    rw [spB_mark] at q
    cases hs : spA (r.map (·.1)) p (r.map (·.2) ++ T) with
    | none =>
      rw [hs] at q
      ktr_call "q4" ⟨encA, noneD, em⟩
      refine ⟨okEq_of (by decide +kernel) (kk.shp hM), ?_⟩
      rw [show PyData.eqv (.tuple [.str (Str.ofString "none")]) (Kd.mark m).enc = false from by
        simp only [Kd.enc, eqv_tup, eqvAll_cons, eqvAll_nc, Bool.and_false]]
      exact q
    | some y =>
      obtain ⟨k', i, w, L⟩ := y
      have kg := spA_gd ko hs
      rw [hs] at q
      ktr_call "q4" ⟨encA, em⟩
      refine ⟨okEq_of (kg.shp hM) (kk.shp hM), ?_⟩
      rw [Kd.eqv]
      cases k' with
      | mark m' =>
        simp only [finS] at q
        by_cases hm : m' = m
        · subst hm
          rw [if_pos rfl] at q
          rw [decide_eq_true rfl]
          exact q
        · rw [if_neg hm] at q
          rw [decide_eq_false (fun e => hm (Kd.mark.inj e))]
          exact q
      | _ =>
        rw [decide_eq_false (fun e => by cases e)]
        exact q
  | one =>
    ktr_call "q4" ⟨t_Lislong, t_Lislong_12, t_Lislong_1, Kd.enc⟩
    refine ⟨okEq_of (Pg.shp_lk hM pl pd) (by decide +kernel), ?_⟩
    have et : PyData.tuple [.str (Str.ofString "thing")] = Pg.thing.enc := rfl
    rw [et]
    cases p with
    | thing =>
      rw [(Pg.eqvI _ _).mpr rfl]
      exact q
    | _ =>
      rw [show PyData.eqv _ _ = false from Bool.eq_false_iff.mpr fun e => by have := (Pg.eqvI _ _).mp e; cases this]
      exact q
  | both a b =>
    ktr_call "q4" ⟨t_Lislong, t_Lislong_12, Kd.enc⟩
    rw [vNext_mk]
    ktr_call "q4" ⟨t_Lislong_11⟩
    rw [vNext_mk]
    ktr_call "q4" ⟨t_Lislong_10, t_Lislong_5⟩
    cases p with
    | pair p1 p2 =>
      simp only [Pg.deep] at hd hN pd
      have e : spB (r.map (·.1)) (.pair p1 p2) (r.map (·.2) ++ T) (.both a b) = (spB (r.map (·.1)) p1 (r.map (·.2) ++ T) a).bind fun x => (spB (r.map (·.1)) p2 (r.map (·.2) ++ T) b).map fun y => x ++ y := rfl
      ktr_call "q4" ⟨Pg.enc⟩
      refine ⟨r, T, a, p1, ko, kk.both.1, pl.1, by omega, by omega, by omega, rfl, rfl, ?_⟩
      rw [e] at q
      cases h1 : spB (r.map (·.1)) p1 (r.map (·.2) ++ T) a with
      | none =>
        rw [h1] at q
        ktr_call "q4" ⟨Option.isSome_none⟩
        ktr_call "q4" ⟨t_Lislong_3⟩
        exact q
      | some x =>
        rw [h1] at q
        ktr_call "q4" ⟨Option.isSome_some⟩
        rw [vNext_mk]
        ktr_call "q4" ⟨t_Lislong_4⟩
        refine ⟨r, T, b, p2, ko, kk.both.2, pl.2, by omega, by omega, by omega, rfl, rfl, ?_⟩
        ktr_call "q4" "0"
        simp only [Option.bind_some, Option.isSome_map] at q
        exact q
    | _ =>
      ktr_call "q4" ⟨Pg.enc, t_Lislong_3⟩
      exact q
  | to a b =>
    ktr_call "q4" ⟨t_Lislong, t_Lislong_12, Kd.enc⟩
    rw [vNext_mk]
    ktr_call "q4" ⟨t_Lislong_11⟩
    rw [vNext_mk]
    ktr_call "q4" ⟨t_Lislong_10⟩
    rw [vNext_mk]
    ktr_call "q4" ⟨t_Lislong_9, Vl.opStr⟩
    refine ⟨lg (by omega), by rw [← String.length_append]; exact lgs (by omega), ?_⟩
    have ex : Str.ofString ("x" ++ toString ((T.length : Nat) : Int)) = xN T.length := rfl
    rw [ex]
    have hs : Vl.shp (.tuple [.str (Str.ofString "take"), .str (xN T.length), a.enc]) = true := by
      have h1 := kk.to.1.can hM
      have h2 := kk.to.1.dep
      unfold Vl.shp
      rw [can_tup, depth_tup, canAll_cons, canAll_cons, canAll_cons, canAll_nil, depthAll_cons, depthAll_cons, depthAll_cons, depthAll_nil, can_str, can_str, depth_str, depth_str, h1, strOk_xN, decide_eq_true (by omega)]
      decide +kernel
    have hp := shp_tkN 3 (ds := match p.enc with | .tuple ds => ds | _ => []) (by
      have := Pg.shp_lk hM pl pd
      cases p <;> exact this)
    cases p with
    | take x κ p' =>
      simp only [Pg.deep] at hd hN pd
      have e : spB (r.map (·.1)) (.take x κ p') (r.map (·.2) ++ T) (.to a b) = if kdOk κ ∧ x = xN ((r.map (·.2) ++ T).length - (r.map (·.1)).length) ∧ κ = a then spB (r.map (·.1)) p' ((r.map (·.2) ++ T) ++ [a]) b else none := rfl
      have el0 : (r.map (·.2) ++ T).length - (r.map (·.1)).length = T.length := by rw [List.length_append, List.length_map, List.length_map]; omega
      rw [el0, List.append_assoc] at e
      have hp' : Vl.shp (.tuple [.str (Str.ofString "take"), .str x, κ.enc]) = true := hp
      ktr_call "q4" ⟨t_Lislong_8, Pg.enc⟩
      rw [show Vl.cut [PyData.str (Str.ofString "take"), PyData.str x, κ.enc, p'.enc] none (some 3) = [PyData.str (Str.ofString "take"), PyData.str x, κ.enc] from rfl]
      refine ⟨okEq_of hp' hs, ?_⟩
      by_cases hc : x = xN T.length ∧ κ = a
      · obtain ⟨rfl, rfl⟩ := hc
        rw [e, if_pos ⟨kk.to.1.2, rfl, rfl⟩] at q
        rw [show PyData.eqv (.tuple [.str (Str.ofString "take"), .str (xN T.length), κ.enc]) (.tuple [.str (Str.ofString "take"), .str (xN T.length), κ.enc]) = true from SeqAt.eqv_refl _ (shp_can hs)]
        rw [if_neg (by decide), vNext_mk]
        have ek : (kwn r T).map encB ++ [.tuple [.str (xN T.length), κ.enc]] = (kwn r (T ++ [κ])).map encB := by rw [kwn_snoc, List.map_append]; rfl
        have el : ((kwn r T).map encB).length = r.length + T.length := by rw [List.length_map, kwn_len]
        have rl := ko.len
        ktr_call "q4" ⟨t_Lislong_7, el, ek⟩
        refine ⟨big (by omega), r, T ++ [κ], b, p', ko.snoc kk.to.1, kk.to.2, pl.2.2, by omega, by rw [List.length_append, List.length_singleton]; omega, by omega, ?_, rfl, ?_⟩
        · rw [List.length_append, List.length_singleton]
          rfl
        · ktr_call "q4" "0"
          exact q
      · rw [e, if_neg fun h => hc h.2] at q
        rw [show PyData.eqv (.tuple [.str (Str.ofString "take"), .str x, κ.enc]) (.tuple [.str (Str.ofString "take"), .str (xN T.length), a.enc]) = false from Bool.eq_false_iff.mpr fun e => hc (by
          simp only [eqv_tup, eqvAll_cons, eqvAll_nil, eqv_str, Kd.eqv, Bool.and_eq_true, decide_eq_true_eq, Bool.and_true] at e
          exact ⟨e.2.1, e.2.2⟩)]
        rw [if_pos (by decide)]
        ktr_call "q4" ⟨t_Lislong_6⟩
        exact q
    | name x =>
      ktr_call "q4" ⟨t_Lislong_8, Pg.enc⟩
      rw [show Vl.cut [PyData.str (Str.ofString "name"), PyData.str x] none (some 3) = [PyData.str (Str.ofString "name"), PyData.str x] from rfl]
      refine ⟨okEq_of hp hs, ?_⟩
      rw [show PyData.eqv (.tuple [.str (Str.ofString "name"), .str x]) (.tuple [.str (Str.ofString "take"), .str (xN T.length), a.enc]) = false from by
        simp only [eqv_tup, eqvAll_cons, eqvAll_nc, Bool.and_false]]
      rw [if_pos (by decide)]
      ktr_call "q4" ⟨t_Lislong_6⟩
      exact q
    | thing =>
      ktr_call "q4" ⟨t_Lislong_8, Pg.enc⟩
      rw [show Vl.cut [PyData.str (Str.ofString "thing")] none (some 3) = [PyData.str (Str.ofString "thing")] from rfl]
      refine ⟨okEq_of hp hs, ?_⟩
      rw [show PyData.eqv (.tuple [.str (Str.ofString "thing")]) (.tuple [.str (Str.ofString "take"), .str (xN T.length), a.enc]) = false from by
        simp only [eqv_tup, eqvAll_cons, eqvAll_nc, Bool.and_false]]
      rw [if_pos (by decide)]
      ktr_call "q4" ⟨t_Lislong_6⟩
      exact q
    | first p1 =>
      ktr_call "q4" ⟨t_Lislong_8, Pg.enc⟩
      rw [show Vl.cut [PyData.str (Str.ofString "first"), p1.enc] none (some 3) = [PyData.str (Str.ofString "first"), p1.enc] from rfl]
      refine ⟨okEq_of hp hs, ?_⟩
      rw [show PyData.eqv (.tuple [.str (Str.ofString "first"), p1.enc]) (.tuple [.str (Str.ofString "take"), .str (xN T.length), a.enc]) = false from by
        simp only [eqv_tup, eqvAll_cons, eqvAll_nc, Bool.and_false]]
      rw [if_pos (by decide)]
      ktr_call "q4" ⟨t_Lislong_6⟩
      exact q
    | second p1 =>
      ktr_call "q4" ⟨t_Lislong_8, Pg.enc⟩
      rw [show Vl.cut [PyData.str (Str.ofString "second"), p1.enc] none (some 3) = [PyData.str (Str.ofString "second"), p1.enc] from rfl]
      refine ⟨okEq_of hp hs, ?_⟩
      rw [show PyData.eqv (.tuple [.str (Str.ofString "second"), p1.enc]) (.tuple [.str (Str.ofString "take"), .str (xN T.length), a.enc]) = false from by
        simp only [eqv_tup, eqvAll_cons, eqvAll_nc, Bool.and_false]]
      rw [if_pos (by decide)]
      ktr_call "q4" ⟨t_Lislong_6⟩
      exact q
    | give p1 p2 =>
      ktr_call "q4" ⟨t_Lislong_8, Pg.enc⟩
      rw [show Vl.cut [PyData.str (Str.ofString "give"), p1.enc, p2.enc] none (some 3) = [PyData.str (Str.ofString "give"), p1.enc, p2.enc] from rfl]
      refine ⟨okEq_of hp hs, ?_⟩
      rw [show PyData.eqv (.tuple [.str (Str.ofString "give"), p1.enc, p2.enc]) (.tuple [.str (Str.ofString "take"), .str (xN T.length), a.enc]) = false from by
        simp only [eqv_tup, eqvAll_cons, eqv_str, ofs_inj, String.reduceEq, decide_false, Bool.false_and]]
      rw [if_pos (by decide)]
      ktr_call "q4" ⟨t_Lislong_6⟩
      exact q
    | pair p1 p2 =>
      ktr_call "q4" ⟨t_Lislong_8, Pg.enc⟩
      rw [show Vl.cut [PyData.str (Str.ofString "pair"), p1.enc, p2.enc] none (some 3) = [PyData.str (Str.ofString "pair"), p1.enc, p2.enc] from rfl]
      refine ⟨okEq_of hp hs, ?_⟩
      rw [show PyData.eqv (.tuple [.str (Str.ofString "pair"), p1.enc, p2.enc]) (.tuple [.str (Str.ofString "take"), .str (xN T.length), a.enc]) = false from by
        simp only [eqv_tup, eqvAll_cons, eqv_str, ofs_inj, String.reduceEq, decide_false, Bool.false_and]]
      rw [if_pos (by decide)]
      ktr_call "q4" ⟨t_Lislong_6⟩
      exact q
end Kf
namespace Vl
open PySem L2 PySem.Spec PyProof.Rows
section
variable {X : Cx} {o e : Expr} {to te : TE} {y z c : Str} {j k l : Nat} {c0 c1 c2 apos pos : Pos}
theorem PAT.imp {es : List Expr} {t t' : TA} (h : PAT X es t) (f : ∀ σ H Q, t' σ H Q → t σ H Q) : PAT X es t' := fun pos pins s σ H Q h0 I q => h pos pins s σ H Q h0 I (f σ H Q q)
variable {ta : VTE} {a b : Expr} {tb : VTE}
end
end Vl
namespace Vl
open PySem L2 PySem.Spec PyProof.Rows
def vDead (t : VTS) : VTS := fun D e => t { D with nx := fun _ => False } e
theorem vss_dead {X : Cx} {st : Stmt} {rest : List Stmt} {t : VTS} (h1 : VS X st t) : VSs X (st :: rest) (vDead t) := PSs.imp (pss_cons h1 (⟨fun _ _ _ _ _ _ h => h.elim⟩ : PSs X rest (fun _ _ _ => False))) fun D σ H h => by
  obtain ⟨R, F, A, e, DV, rep, k, fin⟩ := h
  exact ⟨R, F, A, e, _, rep, k, fun e1 σ1 F1 A1 H1 k1 l1 p1 rep1 => k1.elim, fin.bk, fin.ct, fin.rt, fin.ex⟩
def vPar (i j : Nat) (t : VTA) : VTS := fun D e => t e fun ss e1 => match ss with
  | [s, u] => D.nx ⟨(e1.sl.set i (some s)).set j (some u), e1.st⟩
  | _ => False
theorem vs_par {X : Cx} {pos : Pos} {i j : Nat} {x y : Str} {a b : Expr} {t : VTA} {px py pt : Pos} {kt k2 : Nat} {pt2 : Pos} (hc : X.calm = true) (hN : X.N.Nodup) (hi : X.N[i]? = some x) (hj : X.N[j]? = some y) (hij : i ≠ j) (hx : X.env.scope.names.lookup x = some .local) (hy : X.env.scope.names.lookup y = some .local) (ha : VA X [a, b] t)
    (hw : swappedStores [.Tuple [.Name x px, .Name y py] kt pt] (.Tuple [a, b] k2 pt2) X.env = pure (some [x, y]) := by rfl)
    (hs : swapsWithSole [.Tuple [.Name x px, .Name y py] kt pt] (.Tuple [a, b] k2 pt2) pos.line X.env = pure false := by rfl) :
    VS X (.Assign [.Tuple [.Name x px, .Name y py] kt pt] (.Tuple [a, b] k2 pt2) pos) (vPar i j t) := PS.imp (ps_par hc hN hi hj hij hx hy ha hw hs) fun D σ H h => by
  obtain ⟨R, F, A, e, DV, rep, k, fin⟩ := h
  refine ⟨R, F, A, e, _, rep, k, fun ss e1 vs F1 A1 H1 k1 l1 p1 rep1 ats => ?_⟩
  split at k1
  · rename_i s u
    cases ats with
    | cons a1 a2 =>
      cases a2 with
      | cons a2 a3 =>
        cases a3
        exact ⟨_, _, rfl, fin.nx _ _ _ _ _ k1 l1 p1 ((rep1.put a1).put a2)⟩
  · exact k1.elim
def xCallW (fs : List Addr) (S : Nat → Option VSx) (own : Ob → En → KE → Prop) (tn : VTE) (t : VTA) : VTEx := fun e Kp Ep => tn e fun s e1 => match pk s e1 with
  | some (.int n) => 0 ≤ n ∧ ∃ f p, fs[n.toNat]? = some f ∧ S n.toNat = some p ∧ xN (xCallK own p) t e1 Kp Ep
  | _ => False
section
variable {X : Cx} {j k : Nat} {ix a : Expr} {es fes : List Expr} {fs : List Addr} {S : Nat → Option VSx} {tn : VTE} {t : VTA} {p3 p5 pos : Pos}
theorem vx_callW {own : Ob → En → KE → Prop} (hw : FinW X.K own) (G : ∀ n f p, fs[n]? = some f → S n = some p → ∃ fd ps, FnOk X.prog X.w X.K X.mg X.base (L2.CX X.prog X.w) k f fd ps (spX X.K X.mg p) ∧ PySem.W.keepIn X.K (.ref f) = true ∧ Binds X.K fd ps []) (hr : Room j X.A) (hk : k ≤ j)
    (hes : PA X fes (fun _ H Q => Q (fs.map V.ref) H)) (hl : fs.length ≤ sizeLine) (ht : VE X ix tn) (ha : VA X (a :: es) t)
    (hpl0 : PlainIx ix := by exact fun _ _ => rfl)
    (hc : eval (.Call (.Subscript (.List fes p3) ix p5) (a :: es) [] pos) X.env = (do callWith pos (← eval (.Subscript (.List fes p3) ix p5) X.env) [] (backTo pos (starEach (a :: es) X.env)) (backToKw pos (keywordEach [] X.env))) := by rfl)
    (he : starEach (a :: es) X.env = (false, eval a X.env) :: starEach es X.env := by rfl) (hpl : (backTo pos (starEach es X.env)).any (·.1) = false := by rfl) :
    VX X (.Call (.Subscript (.List fes p3) ix p5) (a :: es) [] pos) (xCallW fs S own tn t) := by
  refine ⟨fun pins s σ H Q I h => ?_⟩
  obtain ⟨R, F, A, e, Kp, Ep, rep, h, fin, W, tk, finx⟩ := h
  have P1 := pe_ix (ta := tLst fun _ H Q => Q (fs.map V.ref) H) (pos := p5) ix_seq (pe_lst (pos := p3) hes) ht hpl0
  let Q1 : VK := fun y H1 => ∃ n f p, y = .ref f ∧ fs[n]? = some f ∧ S n = some p ∧ liftA X.K t σ H1 fun xs H2 => spX X.K X.mg p xs H2 Q (WE W σ)
  refine Call_ (thn (P1.run pins s σ H Q1 I ?_) fun u s1 ⟨y, H1, I1, ry, n, f, p, ey, hf, hS, q⟩ => ?_) hc
  · refine ⟨by rw [List.length_map]; exact hl, fun q hq => ?_⟩
    obtain ⟨rep1, l1⟩ := rep.fresh hq (.lst (fs.map V.ref))
    refine ⟨R, _, A, _, _, rep1, h, fun s1 e1 y F1 A1 H1 k1 l2 p1 rep3 a1 => ?_⟩
    split at k1
    · rename_i n hn
      obtain ⟨n0, f, p, hf, hS, hu⟩ := k1
      have ef : L2.atI (fs.map V.ref) n = some (.ref f) := by
        have : L2.atI (fs.map V.ref) ((n.toNat : Nat) : Int) = some (.ref f) := atI_nat (by rw [List.getElem?_map, hf]; rfl)
        rwa [Int.toNat_of_nonneg n0] at this
      refine .inl ⟨q, fs.map V.ref, n, .ref f, rfl, (rep3.pk a1 hn).int, SqL.of (rep3.sub _ _ (l2 _ _ upd_same)), ef, n.toNat, f, p, rfl, hf, hS, ?_⟩
      refine ⟨R, F1, A1, e1, _, rep3, hu, fun ss e2 vs F2 A2 H2 k2 l3 p3 rep4 ats => ?_⟩
      unfold xCallK at k2
      split at k2
      · rename_i cs hu2 hg
        obtain ⟨Rc, Ap, repc, back⟩ := call_core rep4 ats hu2 hg
        refine ⟨Rc, F2, Ap, renum 0 ss, cs, _, _, repc, k2, fun s cs' v F' A' H' k l p5 rep' => ?_, fun x cs' F' A' H' cls d k l p5 rep' xa => ?_⟩
        · split at k
          · exact k.elim
          · rename_i hall
            exact (back s cs' v F' A' H' l p5 rep' hall).2 hw (fin.tr ((l1.trans l2).trans l3) (p1.trans p3)) k
        · split at k
          · exact k.elim
          · rename_i hall
            exact finx x _ cls d σ F' A2 H' k (((l1.trans l2).trans l3).trans l) (p1.trans p3) (back _ cs' _ F' A' H' l p5 rep' hall).1 xa
      · exact k2.elim
    · exact k1.elim
  · subst ey
    obtain rfl : u = Value.ref f := ry
    obtain ⟨fd, ps, F1, hkp, hb⟩ := G n f p hf hS
    refine PySem.W.callWith_K (h₀ := X.base) I1.ok.mod.kin hkp (thn (ha.run pos pins s1 σ H1 _ I1 q) fun us s2 ⟨vs, H2, I2, r, q2⟩ => ⟨I2.kIn, ?_⟩) he hpl
    exact run_fnS F1 (hr.mono hk) hb (passAt tk σ) I2 r q2
end
structure Ways2X (P : Program) (w : World) (K : PySem.W.Frag) (mg : Str → Option Value) (base : Heap) (k : Nat) (x1 x2 : Str) (f1 f2 : Addr) (q1 q2 : VSx) : Prop where
  m1 : mg x1 = some (.ref f1)
  m2 : mg x2 = some (.ref f2)
  G1 : ∃ fd ps, FnOk P w K mg base (L2.CX P w) k f1 fd ps (spX K mg q1) ∧ PySem.W.keepIn K (.ref f1) = true ∧ Binds K fd ps []
  G2 : ∃ fd ps, FnOk P w K mg base (L2.CX P w) k f2 fd ps (spX K mg q2) ∧ PySem.W.keepIn K (.ref f2) = true ∧ Binds K fd ps []
def wayX (q1 q2 : VSx) : Nat → Option VSx
  | 0 => some q1
  | 1 => some q2
  | _ => none
theorem Ways2X.of {P : Program} {w : World} {K : PySem.W.Frag} {mg : Str → Option Value} {base : Heap} {k : Nat} {x1 x2 : Str} {ps qs : List Str} {p q : VSx} (G1 : VFx P w K mg base k x1 ps p) (G2 : VFx P w K mg base k x2 qs q) : ∃ f1 f2, Ways2X P w K mg base k x1 x2 f1 f2 p q := by
  obtain ⟨f1, d1, a1, b1, c1, e1⟩ := G1.ex
  obtain ⟨f2, d2, a2, b2, c2, e2⟩ := G2.ex
  exact ⟨f1, f2, e1, e2, ⟨d1, _, a1, b1, c1⟩, ⟨d2, _, a2, b2, c2⟩⟩
theorem Ways2X.call {P : Program} {w : World} {K : PySem.W.Frag} {mg : Str → Option Value} {base : Heap} {k : Nat} {x1 x2 : Str} {f1 f2 : Addr} {q1 q2 : VSx} (W : Ways2X P w K mg base k x1 x2 f1 f2 q1 q2) :
    ∀ n f p, ([f1, f2] : List Addr)[n]? = some f → wayX q1 q2 n = some p → ∃ fd ps, FnOk P w K mg base (L2.CX P w) k f fd ps (spX K mg p) ∧ PySem.W.keepIn K (.ref f) = true ∧ Binds K fd ps [] := fun n f p h1 h2 => by
  match n, h1, h2 with
  | 0, h1, h2 => cases h1; cases h2; exact W.G1
  | 1, h1, h2 => cases h1; cases h2; exact W.G2
  | n + 2, h1, h2 => cases h2
theorem Ways2X.pa {X : Cx} {k : Nat} {x1 x2 : Str} {f1 f2 : Addr} {q1 q2 : VSx} {r1 r2 : Pos} (W : Ways2X X.prog X.w X.K X.mg X.base k x1 x2 f1 f2 q1 q2) (g1 : Gl X x1) (g2 : Gl X x2)
    (h1 : (x1 == ("__debug__" : Str)) = false := by decide) (h2 : (x2 == ("__debug__" : Str)) = false := by decide)
    (s1 : starEach [.Name x1 r1, .Name x2 r2] X.env = (false, eval (.Name x1 r1) X.env) :: starEach [.Name x2 r2] X.env := by rfl)
    (s2 : starEach [.Name x2 r2] X.env = (false, eval (.Name x2 r2) X.env) :: starEach [] X.env := by rfl) : PA X [.Name x1 r1, .Name x2 r2] (fun _ H Q => Q ([f1, f2].map V.ref) H) :=
  pa_cons (pe_glob (v := .ref f1) g1 W.m1 rfl h1) (pa_cons (pe_glob (v := .ref f2) g2 W.m2 rfl h2) pa_nil s2) s1
end Vl
namespace Kf
open PySem L2 Vl PySem.Spec PyProof.Rows
local macro_rules
  | `(tactic| ktr_call "q5" ⟨$xs,*⟩) => `(tactic| simp only [$[$xs:term],*, xRet, xDrop, xSet, xAsg, Vl.xN, xCallK, xCallN, opCallN, xIxE, dX_nx, dX_rt, dX_ex, retX, vRaise, vTryAs, vTryOnly, vIsx, vIsxs, flatD, List.any_cons, List.any_nil, eqv_str, eqv_int, eqv_ti, eqv_it, eqv_st, eqv_ts, cut1, Bool.or_false, Bool.or_true, Bool.and_self, Bool.and_true, Bool.and_false, Bool.false_or, Bool.true_or, and_self, ofs_inj, ofs_app, ofs_len, String.reduceEq, String.reduceNe, String.reduceAppend, decide_true, decide_false, Bool.not_true, Bool.not_false, sz0, sz1, sz2, sz3, sz4, sz5, sz6, sz7, sz8, sz9, sz10, sz11, sz12, sz13, sz14, sz15, sz16, sz17, sz18, sz19, sz20, sz21, sz22, sz23, sz24, sz25, cpow1018, true_and, and_true, Nat.reduceAdd, Nat.reduceLT, Nat.reduceSub, Int.reduceNe, Int.reduceEq, Int.reduceLT, Int.reduceLE, Int.reduceToNat, ne_eq, not_false_eq_true, List.length_map, Nat.lt_irrefl, dV_nx, dV_rt, at0, at1, at2, at3, ix20, ix21, vSeq, vIfS, vTest, vTruth, truth, v2, v1, vN, vCons, vNil, vStar, vVar, vC, xIx, Vl.opI0, Vl.opI, pk, vSet, vAug, vAsg, xgSub, vRet, vRetN, vDrop, vBreak, vCont, asD, asDs, opMod, opDiv, opMul2, Vl.opAdd, Vl.opAddO, opSub, opPow, opLt, Vl.opLe, opGt, Vl.opGe, xEq, okEq_str, okEq_int, xIn, okIn, inD, xIsN, isNone_n, isNone_t, isNone_l, isNone_i, isNone_s, isMo, mob, pkm, gModI, gDivI, gSubI, gMulI, gPowI, gGt, gLt, gLe, gGe, vNotT, vAndT, vOrT, vAndV, vOrV, opNot, opNotG, vIfE, opTup, opLst, opLstO, Vl.opLen, Vl.opInt, opList, opListO, opTuple, opII, gMax, gMin, vM, vM0, isT, xPop, Vl.opAppend, opExtend, opJoin, vgName, vgTup, vgCons, vgNil, kOpt_some, kOpn_some, kOps_some, Vl.opSum, Vl.opInsert, Vl.opIndex, opDivmod, vSl, vPart, vNoPart, opSl, opSlO, opRev, opCallK, ownD, ownO, objs, renum, uniq, getS, putS, vCall0, vFor, vForW, En.wk, vSeqI, vTupI, vRng1, vRng2, vRngD, vFn, vCallL, vOdd, vWays, vEnum, vZip, chkOf, vLcK, vYes, finD, finO, En.wipe, wipeE, En.trim, trimS, dropNone, clr_n, clr_v, clr_k, clr_o, wth, Vl.ret, takeS, startV, List.map_cons, List.map_nil, List.length_cons, List.length_nil, List.cons_append, List.nil_append, List.replicate, List.getElem?_cons_succ, List.getElem?_cons_zero, List.getElem?_nil, List.set_cons_succ, List.set_cons_zero, List.set_nil, List.all_nil, List.all_cons, Bool.true_and, Option.map_some, Option.map_none, if_true, if_false, decide_eq_true_eq, Bool.false_eq_true, List.take_succ_cons, List.take_zero, List.take_nil, List.drop_succ_cons, List.drop_zero, List.drop_nil, reduceIte, reduceCtorEq])
  | `(tactic| ktr_call "q5" "0") => `(tactic| simp only [xRet, xDrop, xSet, xAsg, Vl.xN, xCallK, xCallN, opCallN, xIxE, dX_nx, dX_rt, dX_ex, retX, vRaise, vTryAs, vTryOnly, vIsx, vIsxs, flatD, List.any_cons, List.any_nil, eqv_str, eqv_int, eqv_ti, eqv_it, eqv_st, eqv_ts, cut1, Bool.or_false, Bool.or_true, Bool.and_self, Bool.and_true, Bool.and_false, Bool.false_or, Bool.true_or, and_self, ofs_inj, ofs_app, ofs_len, String.reduceEq, String.reduceNe, String.reduceAppend, decide_true, decide_false, Bool.not_true, Bool.not_false, sz0, sz1, sz2, sz3, sz4, sz5, sz6, sz7, sz8, sz9, sz10, sz11, sz12, sz13, sz14, sz15, sz16, sz17, sz18, sz19, sz20, sz21, sz22, sz23, sz24, sz25, cpow1018, true_and, and_true, Nat.reduceAdd, Nat.reduceLT, Nat.reduceSub, Int.reduceNe, Int.reduceEq, Int.reduceLT, Int.reduceLE, Int.reduceToNat, ne_eq, not_false_eq_true, List.length_map, Nat.lt_irrefl, dV_nx, dV_rt, at0, at1, at2, at3, ix20, ix21, vSeq, vIfS, vTest, vTruth, truth, v2, v1, vN, vCons, vNil, vStar, vVar, vC, xIx, Vl.opI0, Vl.opI, pk, vSet, vAug, vAsg, xgSub, vRet, vRetN, vDrop, vBreak, vCont, asD, asDs, opMod, opDiv, opMul2, Vl.opAdd, Vl.opAddO, opSub, opPow, opLt, Vl.opLe, opGt, Vl.opGe, xEq, okEq_str, okEq_int, xIn, okIn, inD, xIsN, isNone_n, isNone_t, isNone_l, isNone_i, isNone_s, isMo, mob, pkm, gModI, gDivI, gSubI, gMulI, gPowI, gGt, gLt, gLe, gGe, vNotT, vAndT, vOrT, vAndV, vOrV, opNot, opNotG, vIfE, opTup, opLst, opLstO, Vl.opLen, Vl.opInt, opList, opListO, opTuple, opII, gMax, gMin, vM, vM0, isT, xPop, Vl.opAppend, opExtend, opJoin, vgName, vgTup, vgCons, vgNil, kOpt_some, kOpn_some, kOps_some, Vl.opSum, Vl.opInsert, Vl.opIndex, opDivmod, vSl, vPart, vNoPart, opSl, opSlO, opRev, opCallK, ownD, ownO, objs, renum, uniq, getS, putS, vCall0, vFor, vForW, En.wk, vSeqI, vTupI, vRng1, vRng2, vRngD, vFn, vCallL, vOdd, vWays, vEnum, vZip, chkOf, vLcK, vYes, finD, finO, En.wipe, wipeE, En.trim, trimS, dropNone, clr_n, clr_v, clr_k, clr_o, wth, Vl.ret, takeS, startV, List.map_cons, List.map_nil, List.length_cons, List.length_nil, List.cons_append, List.nil_append, List.replicate, List.getElem?_cons_succ, List.getElem?_cons_zero, List.getElem?_nil, List.set_cons_succ, List.set_cons_zero, List.set_nil, List.all_nil, List.all_cons, Bool.true_and, Option.map_some, Option.map_none, if_true, if_false, decide_eq_true_eq, Bool.false_eq_true, List.take_succ_cons, List.take_zero, List.take_nil, List.drop_succ_cons, List.drop_zero, List.drop_nil, reduceIte, reduceCtorEq])
local macro_rules
  | `(tactic| ktr_call "q4" ⟨$xs,*⟩) => `(tactic| simp only [$[$xs:term],*, flatD, List.any_cons, List.any_nil, eqv_str, eqv_int, eqv_ti, eqv_it, eqv_st, eqv_ts, cut1, Bool.or_false, Bool.or_true, Bool.and_self, Bool.and_true, Bool.and_false, Bool.false_or, Bool.true_or, and_self, ofs_inj, ofs_app, ofs_len, String.reduceEq, String.reduceNe, String.reduceAppend, decide_true, decide_false, Bool.not_true, Bool.not_false, sz0, sz1, sz2, sz3, sz4, sz5, sz6, sz7, sz8, sz9, sz10, sz11, sz12, sz13, sz14, sz15, sz16, sz17, sz18, sz19, sz20, sz21, sz22, sz23, sz24, sz25, cpow1018, true_and, and_true, Nat.reduceAdd, Nat.reduceLT, Nat.reduceSub, Int.reduceNe, Int.reduceEq, Int.reduceLT, Int.reduceLE, Int.reduceToNat, ne_eq, not_false_eq_true, List.length_map, Nat.lt_irrefl, dV_nx, dV_rt, at0, at1, at2, at3, ix20, ix21, vSeq, vIfS, vTest, vTruth, truth, v2, v1, vN, vCons, vNil, vStar, vVar, vC, xIx, Vl.opI0, Vl.opI, pk, vSet, vAug, vAsg, xgSub, vRet, vRetN, vDrop, vBreak, vCont, asD, asDs, opMod, opDiv, opMul2, Vl.opAdd, Vl.opAddO, opSub, opPow, opLt, Vl.opLe, opGt, Vl.opGe, xEq, okEq_str, okEq_int, xIn, okIn, inD, xIsN, isNone_n, isNone_t, isNone_l, isNone_i, isNone_s, isMo, mob, pkm, gModI, gDivI, gSubI, gMulI, gPowI, gGt, gLt, gLe, gGe, vNotT, vAndT, vOrT, vAndV, vOrV, opNot, opNotG, vIfE, opTup, opLst, opLstO, Vl.opLen, Vl.opInt, opList, opListO, opTuple, opII, gMax, gMin, vM, vM0, isT, xPop, Vl.opAppend, opExtend, opJoin, vgName, vgTup, vgCons, vgNil, kOpt_some, kOpn_some, kOps_some, Vl.opSum, Vl.opInsert, Vl.opIndex, opDivmod, vSl, vPart, vNoPart, opSl, opSlO, opRev, opCallK, ownD, ownO, objs, renum, uniq, getS, putS, vCall0, vFor, vForW, En.wk, vSeqI, vTupI, vRng1, vRng2, vRngD, vFn, vCallL, vOdd, vWays, vEnum, vZip, chkOf, vLcK, vYes, finD, finO, En.wipe, wipeE, En.trim, trimS, dropNone, clr_n, clr_v, clr_k, clr_o, wth, Vl.ret, takeS, startV, List.map_cons, List.map_nil, List.length_cons, List.length_nil, List.cons_append, List.nil_append, List.replicate, List.getElem?_cons_succ, List.getElem?_cons_zero, List.getElem?_nil, List.set_cons_succ, List.set_cons_zero, List.set_nil, List.all_nil, List.all_cons, Bool.true_and, Option.map_some, Option.map_none, if_true, if_false, decide_eq_true_eq, Bool.false_eq_true, List.take_succ_cons, List.take_zero, List.take_nil, List.drop_succ_cons, List.drop_zero, List.drop_nil, reduceIte, reduceCtorEq])
  | `(tactic| ktr_call "q4" "0") => `(tactic| simp only [flatD, List.any_cons, List.any_nil, eqv_str, eqv_int, eqv_ti, eqv_it, eqv_st, eqv_ts, cut1, Bool.or_false, Bool.or_true, Bool.and_self, Bool.and_true, Bool.and_false, Bool.false_or, Bool.true_or, and_self, ofs_inj, ofs_app, ofs_len, String.reduceEq, String.reduceNe, String.reduceAppend, decide_true, decide_false, Bool.not_true, Bool.not_false, sz0, sz1, sz2, sz3, sz4, sz5, sz6, sz7, sz8, sz9, sz10, sz11, sz12, sz13, sz14, sz15, sz16, sz17, sz18, sz19, sz20, sz21, sz22, sz23, sz24, sz25, cpow1018, true_and, and_true, Nat.reduceAdd, Nat.reduceLT, Nat.reduceSub, Int.reduceNe, Int.reduceEq, Int.reduceLT, Int.reduceLE, Int.reduceToNat, ne_eq, not_false_eq_true, List.length_map, Nat.lt_irrefl, dV_nx, dV_rt, at0, at1, at2, at3, ix20, ix21, vSeq, vIfS, vTest, vTruth, truth, v2, v1, vN, vCons, vNil, vStar, vVar, vC, xIx, Vl.opI0, Vl.opI, pk, vSet, vAug, vAsg, xgSub, vRet, vRetN, vDrop, vBreak, vCont, asD, asDs, opMod, opDiv, opMul2, Vl.opAdd, Vl.opAddO, opSub, opPow, opLt, Vl.opLe, opGt, Vl.opGe, xEq, okEq_str, okEq_int, xIn, okIn, inD, xIsN, isNone_n, isNone_t, isNone_l, isNone_i, isNone_s, isMo, mob, pkm, gModI, gDivI, gSubI, gMulI, gPowI, gGt, gLt, gLe, gGe, vNotT, vAndT, vOrT, vAndV, vOrV, opNot, opNotG, vIfE, opTup, opLst, opLstO, Vl.opLen, Vl.opInt, opList, opListO, opTuple, opII, gMax, gMin, vM, vM0, isT, xPop, Vl.opAppend, opExtend, opJoin, vgName, vgTup, vgCons, vgNil, kOpt_some, kOpn_some, kOps_some, Vl.opSum, Vl.opInsert, Vl.opIndex, opDivmod, vSl, vPart, vNoPart, opSl, opSlO, opRev, opCallK, ownD, ownO, objs, renum, uniq, getS, putS, vCall0, vFor, vForW, En.wk, vSeqI, vTupI, vRng1, vRng2, vRngD, vFn, vCallL, vOdd, vWays, vEnum, vZip, chkOf, vLcK, vYes, finD, finO, En.wipe, wipeE, En.trim, trimS, dropNone, clr_n, clr_v, clr_k, clr_o, wth, Vl.ret, takeS, startV, List.map_cons, List.map_nil, List.length_cons, List.length_nil, List.cons_append, List.nil_append, List.replicate, List.getElem?_cons_succ, List.getElem?_cons_zero, List.getElem?_nil, List.set_cons_succ, List.set_cons_zero, List.set_nil, List.all_nil, List.all_cons, Bool.true_and, Option.map_some, Option.map_none, if_true, if_false, decide_eq_true_eq, Bool.false_eq_true, List.take_succ_cons, List.take_zero, List.take_nil, List.drop_succ_cons, List.drop_zero, List.drop_nil, reduceIte, reduceCtorEq])
def t_spellingofX_1 (p_spotsof : VSp) : VTS := (vRaise "NoLong")
def t_spellingofX_2 (p_spotsof : VSp) : VTS := (vRet (vLcK (vSeqI (vVar 3)) (vgTup 4 (vgCons (vgName 4) (vgCons (vgName 5) (vgCons (vgName 6) (vgCons (vgName 7) vgNil))))) vYes (vN opTup (vCons (vVar 5) (vCons (vVar 6) vNil))) [4, 5, 6, 7] finD))
def t_spellingofX_3 (p_spotsof : VSp) : VTS := vSeq (vIfS (vTest (v2 (xIsN false) (vVar 3) (vC .none))) (t_spellingofX_1 p_spotsof) vNext) (t_spellingofX_2 p_spotsof)
def t_spellingofX_4 (p_spotsof : VSp) : VTS := vSeq (vSet 3 (vN (opCallK ownD p_spotsof) (vCons (vVar 0) (vCons (vVar 1) (vCons (vVar 2) vNil))))) (t_spellingofX_3 p_spotsof)
def t_spellingofX (p_spotsof : VSp) : VTS := (t_spellingofX_4 p_spotsof)
def t_numberofX_1 (q_spellingof : VSx) : VTS := vDead (xSet 3 (Vl.xN (xCallK ownD q_spellingof) (vCons (vVar 0) (vCons (vVar 1) (vCons (vVar 2) vNil)))))
def t_numberofX (q_spellingof : VSx) : VTS := (t_numberofX_1 q_spellingof)
def t_Lspelt_1 (p_Lspelt p_Lways p_Lfit : VSp) : VTS := (vRet (vN opLst vNil))
def t_Lspelt_2 (p_Lspelt p_Lways p_Lfit : VSp) : VTS := (vRet (v2 opAdd (vN (opCallK ownD p_Lspelt) (vCons (vVar 0) (vCons (v2 xIx (vVar 1) (vC (.int 1))) (vCons (v2 xIx (vVar 2) (vC (.int 1))) vNil)))) (vN (opCallK ownD p_Lspelt) (vCons (vVar 0) (vCons (v2 xIx (vVar 1) (vC (.int 2))) (vCons (v2 xIx (vVar 2) (vC (.int 2))) vNil))))))
def t_Lspelt_3 (p_Lspelt p_Lways p_Lfit : VSp) : VTS := (vRet (vN (opCallK ownD p_Lspelt) (vCons (v2 opAdd (vVar 0) (vN opLst (vCons (vN opTup (vCons (v2 xIx (vVar 2) (vC (.int 1))) (vCons (v2 xIx (vVar 1) (vC (.int 1))) vNil))) vNil))) (vCons (v2 xIx (vVar 1) (vC (.int 2))) (vCons (v2 xIx (vVar 2) (vC (.int 3))) vNil)))))
def t_Lspelt_4 (p_Lspelt p_Lways p_Lfit : VSp) : VTS := (vSet 2 (v2 xIx (vVar 2) (vC (.int 1))))
def t_Lspelt_5 (p_Lspelt p_Lways p_Lfit : VSp) : VTS := vSeq (vSet 3 (v2 opAdd (vN opLst (vCons (vVar 2) vNil)) (vVar 3))) (t_Lspelt_4 p_Lspelt p_Lways p_Lfit)
def t_Lspelt_6 (p_Lspelt p_Lways p_Lfit : VSp) : VTS := (vSet 8 (v2 opAdd (vVar 8) (vN (opCallK ownD p_Lspelt) (vCons (vVar 0) (vCons (vVar 9) (vCons (v2 xIx (vVar 4) (vC (.int 2))) vNil))))))
def t_Lspelt_7 (p_Lspelt p_Lways p_Lfit : VSp) : VTS := (vIfS (vTest (vIsi "tuple" (vVar 9))) (t_Lspelt_6 p_Lspelt p_Lways p_Lfit) vNext)
def t_Lspelt_8 (p_Lspelt p_Lways p_Lfit : VSp) : VTS := (vRet (vVar 8))
def t_Lspelt_9 (p_Lspelt p_Lways p_Lfit : VSp) : VTS := vSeq (vForW (vZip (vCons (v2 xIx (v2 xIx (vVar 6) (v2 xIx (vVar 7) (vC (.int 0)))) (vC (.int 0))) (vCons (vVar 3) vNil))) (vgTup 2 (vgCons (vgName 9) (vgCons (vgName 4) vgNil)))
      (t_Lspelt_7 p_Lspelt p_Lways p_Lfit)) (t_Lspelt_8 p_Lspelt p_Lways p_Lfit)
def t_Lspelt_10 (p_Lspelt p_Lways p_Lfit : VSp) : VTS := vSeq (vSet 8 (vN opLst (vCons (vN opTup (vCons (vVar 5) (vCons (v2 xIx (vVar 7) (vC (.int 0))) vNil))) vNil))) (t_Lspelt_9 p_Lspelt p_Lways p_Lfit)
def t_Lspelt_11 (p_Lspelt p_Lways p_Lfit : VSp) : VTS := vSeq (vSet 7 (vLcK (vRng1 (vCons (vN opLen (vCons (vVar 6) vNil)) vNil)) (vgName 10) (vAndT (vTest (v2 (xEq false) (v2 xIx (v2 xIx (vVar 6) (vVar 10)) (vC (.int 1))) (v2 xIx (vVar 1) (vC (.int 1))))) (vTruth (vN (opCallK ownD p_Lfit) (vCons (v2 xIx (v2 xIx (vVar 6) (vVar 10)) (vC (.int 0))) (vCons (vVar 3) vNil))))) (vVar 10) [10] finD)) (t_Lspelt_10 p_Lspelt p_Lways p_Lfit)
def t_Lspelt_12 (p_Lspelt p_Lways p_Lfit : VSp) : VTS := vSeq (vSet 6 (vN (opCallK ownD p_Lways) (vCons (v2 xIx (v2 xIx (vVar 0) (vVar 5)) (vC (.int 1))) vNil))) (t_Lspelt_11 p_Lspelt p_Lways p_Lfit)
def t_Lspelt_13 (p_Lspelt p_Lways p_Lfit : VSp) : VTS := vSeq (vSet 5 (vM "list" opIndex (vLcK (vSeqI (vVar 0)) (vgTup 2 (vgCons (vgName 11) (vgCons (vgName 4) vgNil))) vYes (vVar 11) [11, 4] finD) (vCons (v2 xIx (vVar 2) (vC (.int 1))) vNil))) (t_Lspelt_12 p_Lspelt p_Lways p_Lfit)
def t_Lspelt_14 (p_Lspelt p_Lways p_Lfit : VSp) : VTS := vSeq (vWhileW (vTest (v2 (xEq true) (v2 xIx (vVar 2) (vC (.int 0))) (vC (.str "name"))))
      (t_Lspelt_5 p_Lspelt p_Lways p_Lfit)) (t_Lspelt_13 p_Lspelt p_Lways p_Lfit)
def t_Lspelt_15 (p_Lspelt p_Lways p_Lfit : VSp) : VTS := vSeq (vSet 3 (vN opLst vNil)) (t_Lspelt_14 p_Lspelt p_Lways p_Lfit)
def t_Lspelt_16 (p_Lspelt p_Lways p_Lfit : VSp) : VTS := vSeq (vIfS (vTest (v2 (xEq false) (v2 xIx (vVar 1) (vC (.int 0))) (vC (.str "to")))) (t_Lspelt_3 p_Lspelt p_Lways p_Lfit) vNext) (t_Lspelt_15 p_Lspelt p_Lways p_Lfit)
def t_Lspelt_17 (p_Lspelt p_Lways p_Lfit : VSp) : VTS := vSeq (vIfS (vTest (v2 (xEq false) (v2 xIx (vVar 1) (vC (.int 0))) (vC (.str "both")))) (t_Lspelt_2 p_Lspelt p_Lways p_Lfit) vNext) (t_Lspelt_16 p_Lspelt p_Lways p_Lfit)
def t_Lspelt_18 (p_Lspelt p_Lways p_Lfit : VSp) : VTS := vSeq (vIfS (vTest (v2 (xEq false) (v2 xIx (vVar 1) (vC (.int 0))) (vC (.str "one")))) (t_Lspelt_1 p_Lspelt p_Lways p_Lfit) vNext) (t_Lspelt_17 p_Lspelt p_Lways p_Lfit)
def t_Lspelt (p_Lspelt p_Lways p_Lfit : VSp) : VTS := (t_Lspelt_18 p_Lspelt p_Lways p_Lfit)
def t_Lfit_1 : VTS := (vRet (v2 (xEq false) (vVar 2) (vLcK (vSeqI (vVar 1)) (vgName 4) vYes (v2 xIx (vVar 4) (vC (.int 0))) [4] finD)))
def t_Lfit_2 : VTS := vSeq (vSet 2 (vLcK (vSeqI (vVar 0)) (vgName 3) vYes (vIfE (vTest (vIsi "int" (vVar 3))) (v2 xIx (vN opLst (vCons (vC (.str "first")) (vCons (vC (.str "second")) vNil))) (v2 opSub (vVar 3) (vC (.int 1)))) (vC (.str "give"))) [3] finD)) (t_Lfit_1)
def t_Lfit : VTS := (t_Lfit_2)
def t_Ltoldv13_1 (g1 g2 : Addr) (q_w1 q_w2 : VSx) : VTS := (xSet 4 (xCallW [g1, g2] (wayX q_w1 q_w2) ownD (vVar 3) (vCons (vVar 0) (vCons (vVar 1) (vCons (vVar 2) vNil)))))
def t_Ltoldv13_2 (g1 g2 : Addr) (q_w1 q_w2 : VSx) (C1 : Str) (a1 : Addr) : VTS := (vSet 4 (vC (.str "other")))
def t_Ltoldv13_3 (g1 g2 : Addr) (q_w1 q_w2 : VSx) (C1 : Str) (a1 : Addr) : VTS := (vIfS (vNotT (vTest (vIsx C1 a1 5 "NoLong"))) (t_Ltoldv13_2 g1 g2  q_w1 q_w2 C1 a1) vNext)
def t_Ltoldv13_4 (g1 g2 : Addr) (q_w1 q_w2 : VSx) (C1 : Str) (a1 : Addr) : VTS := vSeq (vSet 4 (vC .none)) (t_Ltoldv13_3 g1 g2  q_w1 q_w2 C1 a1)
def t_Ltoldv13_5 (g1 g2 : Addr) (q_w1 q_w2 : VSx) : VTS := (vRet (vVar 4))
def t_Ltoldv13_6 (g1 g2 : Addr) (q_w1 q_w2 : VSx) : VTS := vSeq (vTryAs ["NoLong"] "KindError" 5
    (t_Ltoldv13_1 g1 g2  q_w1 q_w2)
    (fun C1 a1 => (t_Ltoldv13_4 g1 g2  q_w1 q_w2 C1 a1))) (t_Ltoldv13_5 g1 g2  q_w1 q_w2)
def t_Ltoldv13_7 (g1 g2 : Addr) (q_w1 q_w2 : VSx) : VTS := vSeq (vSet 4 (vC .none)) (t_Ltoldv13_6 g1 g2  q_w1 q_w2)
def t_Ltoldv13 (g1 g2 : Addr) (q_w1 q_w2 : VSx) : VTS := (t_Ltoldv13_7 g1 g2  q_w1 q_w2)
def t_lawk54_1 (p_Lpool p_Lrowv8 p_Lkind p_Ltake p_Llonged p_Lislong p_Lspelt p_Ltoldv13 p_sizeof : VSp) : VTS := (vSet 5 (v2 xIx (vVar 6) (vN (opCallK ownD p_Ltake) (vCons (vVar 2) (vCons (vC (.int 7)) vNil)))))
def t_lawk54_2 (p_Lpool p_Lrowv8 p_Lkind p_Ltake p_Llonged p_Lislong p_Lspelt p_Ltoldv13 p_sizeof : VSp) : VTS := vSeq (vDrop (vM "list" opAppend (vVar 6) (vCons (v2 xIx (vN opLst (vCons (vN opTup (vCons (vC (.str "take")) (vCons (vC (.str "z")) (vCons (vVar 4) (vCons (vVar 5) vNil))))) (vCons (v2 opAdd (v2 opAdd (vSl opSl (vVar 5) vNoPart (vPart (vC (.int 1)))) (vN opTup (vCons (vC (.str "z")) vNil))) (vSl opSl (vVar 5) (vPart (vC (.int 2))) vNoPart)) vNil))) (vN opInt (vCons (v2 (xEq false) (v2 xIx (vVar 5) (vC (.int 0))) (vC (.str "take"))) vNil))) vNil))) (t_lawk54_1 p_Lpool p_Lrowv8 p_Lkind p_Ltake p_Llonged p_Lislong p_Lspelt p_Ltoldv13 p_sizeof)
def t_lawk54_3 (p_Lpool p_Lrowv8 p_Lkind p_Ltake p_Llonged p_Lislong p_Lspelt p_Ltoldv13 p_sizeof : VSp) : VTS := vSeq (vSet 6 (v2 opAddO (vVar 6) (vN opLst (vCons (vN opTup (vCons (vC (.str "first")) (vCons (vN opTup (vCons (vC (.str "pair")) (vCons (vVar 5) (vCons (vVar 5) vNil)))) vNil))) (vCons (vN opTup (vCons (vC (.str "give")) (vCons (vN opTup (vCons (vC (.str "take")) (vCons (vC (.str "y")) (vCons (vVar 4) (vCons (vN opTup (vCons (vC (.str "name")) (vCons (vC (.str "y")) vNil))) vNil))))) (vCons (vVar 5) vNil)))) vNil))))) (t_lawk54_2 p_Lpool p_Lrowv8 p_Lkind p_Ltake p_Llonged p_Lislong p_Lspelt p_Ltoldv13 p_sizeof)
def t_lawk54_4 (p_Lpool p_Lrowv8 p_Lkind p_Ltake p_Llonged p_Lislong p_Lspelt p_Ltoldv13 p_sizeof : VSp) : VTS := vSeq (vSet 6 (vN opLstO (vCons (vN opTup (vCons (vC (.str "name")) (vCons (vC (.str "nobody")) vNil))) (vCons (vN opTup (vCons (vC (.str "first")) (vCons (vVar 5) vNil))) (vCons (vN opTup (vCons (vC (.str "pair")) (vCons (vVar 5) (vCons (vVar 5) vNil)))) (vCons (vN opTup (vCons (vC (.str "take")) (vCons (vC (.str "x0")) (vCons (vVar 4) (vCons (vVar 5) vNil))))) vNil)))))) (t_lawk54_3 p_Lpool p_Lrowv8 p_Lkind p_Ltake p_Llonged p_Lislong p_Lspelt p_Ltoldv13 p_sizeof)
def t_lawk54_5 (p_Lpool p_Lrowv8 p_Lkind p_Ltake p_Llonged p_Lislong p_Lspelt p_Ltoldv13 p_sizeof : VSp) : VTS := (vPar 4 5 (vCons (v2 xIx (v2 xIx (vVar 3) (v1 opNeg (vC (.int 1)))) (vC (.int 1))) (vCons (vN opTup (vCons (vC (.str "name")) (vCons (v2 xIx (v2 xIx (vVar 3) (v1 opNeg (vC (.int 1)))) (vC (.int 0))) vNil))) vNil)))
def t_lawk54_6 (p_Lpool p_Lrowv8 p_Lkind p_Ltake p_Llonged p_Lislong p_Lspelt p_Ltoldv13 p_sizeof : VSp) : VTS := (vIfS (vTest (v2 (xEq false) (vN (opCallK ownD p_Ltake) (vCons (vVar 2) (vCons (vC (.int 6)) vNil))) (vC (.int 0)))) (t_lawk54_5 p_Lpool p_Lrowv8 p_Lkind p_Ltake p_Llonged p_Lislong p_Lspelt p_Ltoldv13 p_sizeof) vNext)
def t_lawk54_7 (p_Lpool p_Lrowv8 p_Lkind p_Ltake p_Llonged p_Lislong p_Lspelt p_Ltoldv13 p_sizeof : VSp) : VTS := (vSet 7 (vN (opCallK ownD p_Lspelt) (vCons (vVar 3) (vCons (vVar 4) (vCons (vVar 5) vNil)))))
def t_lawk54_8 (p_Lpool p_Lrowv8 p_Lkind p_Ltake p_Llonged p_Lislong p_Lspelt p_Ltoldv13 p_sizeof : VSp) : VTS := (vRet (vC (.bool false)))
def t_lawk54_9 (p_Lpool p_Lrowv8 p_Lkind p_Ltake p_Llonged p_Lislong p_Lspelt p_Ltoldv13 p_sizeof : VSp) : VTS := (vRet (vC (.bool false)))
def t_lawk54_10 (p_Lpool p_Lrowv8 p_Lkind p_Ltake p_Llonged p_Lislong p_Lspelt p_Ltoldv13 p_sizeof : VSp) : VTS := (vRet (vC (.bool false)))
def t_lawk54_11 (p_Lpool p_Lrowv8 p_Lkind p_Ltake p_Llonged p_Lislong p_Lspelt p_Ltoldv13 p_sizeof : VSp) : VTS := (vIfS (vOrT (vNotT (vTest (vIsi "tuple" (vVar 9)))) (vOrT (vTest (vIsi "bool" (v2 xIx (vVar 9) (vC (.int 0))))) (vTest (vIsi "bool" (v2 xIx (vVar 9) (vC (.int 1))))))) (t_lawk54_10 p_Lpool p_Lrowv8 p_Lkind p_Ltake p_Llonged p_Lislong p_Lspelt p_Ltoldv13 p_sizeof) vNext)
def t_lawk54_12 (p_Lpool p_Lrowv8 p_Lkind p_Ltake p_Llonged p_Lislong p_Lspelt p_Ltoldv13 p_sizeof : VSp) : VTS := (vForW (vSeqI (vVar 8)) (vgName 9)
          (t_lawk54_11 p_Lpool p_Lrowv8 p_Lkind p_Ltake p_Llonged p_Lislong p_Lspelt p_Ltoldv13 p_sizeof))
def t_lawk54_13 (p_Lpool p_Lrowv8 p_Lkind p_Ltake p_Llonged p_Lislong p_Lspelt p_Ltoldv13 p_sizeof : VSp) : VTS := vSeq (vIfS (vOrT (vTest (v2 (xEq true) (vN opLen (vCons (vVar 7) vNil)) (vN (opCallK ownD p_sizeof) (vCons (vVar 5) vNil)))) (vNotT (vTest (vIsi "list" (vVar 8))))) (t_lawk54_9 p_Lpool p_Lrowv8 p_Lkind p_Ltake p_Llonged p_Lislong p_Lspelt p_Ltoldv13 p_sizeof) vNext) (t_lawk54_12 p_Lpool p_Lrowv8 p_Lkind p_Ltake p_Llonged p_Lislong p_Lspelt p_Ltoldv13 p_sizeof)
def t_lawk54_14 (p_Lpool p_Lrowv8 p_Lkind p_Ltake p_Llonged p_Lislong p_Lspelt p_Ltoldv13 p_sizeof : VSp) : VTS := (vIfS (vTest (v2 (xIsN true) (vVar 7) (vC .none))) (t_lawk54_13 p_Lpool p_Lrowv8 p_Lkind p_Ltake p_Llonged p_Lislong p_Lspelt p_Ltoldv13 p_sizeof) vNext)
def t_lawk54_15 (p_Lpool p_Lrowv8 p_Lkind p_Ltake p_Llonged p_Lislong p_Lspelt p_Ltoldv13 p_sizeof : VSp) : VTS := vSeq (vIfS (vOrT (vTest (v2 (xEq true) (vVar 8) (vVar 7))) (vAndT (vTest (v2 (xIsN false) (vVar 7) (vC .none))) (vTest (v2 (xIsN true) (vN (opCallK ownD p_Ltoldv13) (vCons (vN opList (vCons (vVar 3) vNil)) (vCons (vVar 4) (vCons (vVar 5) (vCons (vC (.int 1)) vNil))))) (vC .none))))) (t_lawk54_8 p_Lpool p_Lrowv8 p_Lkind p_Ltake p_Llonged p_Lislong p_Lspelt p_Ltoldv13 p_sizeof) vNext) (t_lawk54_14 p_Lpool p_Lrowv8 p_Lkind p_Ltake p_Llonged p_Lislong p_Lspelt p_Ltoldv13 p_sizeof)
def t_lawk54_16 (p_Lpool p_Lrowv8 p_Lkind p_Ltake p_Llonged p_Lislong p_Lspelt p_Ltoldv13 p_sizeof : VSp) : VTS := vSeq (vSet 8 (vN (opCallK ownD p_Ltoldv13) (vCons (vN opList (vCons (vVar 3) vNil)) (vCons (vVar 4) (vCons (vVar 5) (vCons (vC (.int 0)) vNil)))))) (t_lawk54_15 p_Lpool p_Lrowv8 p_Lkind p_Ltake p_Llonged p_Lislong p_Lspelt p_Ltoldv13 p_sizeof)
def t_lawk54_17 (p_Lpool p_Lrowv8 p_Lkind p_Ltake p_Llonged p_Lislong p_Lspelt p_Ltoldv13 p_sizeof : VSp) : VTS := vSeq (vIfS (vTruth (vN (opCallK ownD p_Lislong) (vCons (vVar 3) (vCons (vVar 4) (vCons (vVar 5) (vCons (vC (.int 0)) vNil)))))) (t_lawk54_7 p_Lpool p_Lrowv8 p_Lkind p_Ltake p_Llonged p_Lislong p_Lspelt p_Ltoldv13 p_sizeof) vNext) (t_lawk54_16 p_Lpool p_Lrowv8 p_Lkind p_Ltake p_Llonged p_Lislong p_Lspelt p_Ltoldv13 p_sizeof)
def t_lawk54_18 (p_Lpool p_Lrowv8 p_Lkind p_Ltake p_Llonged p_Lislong p_Lspelt p_Ltoldv13 p_sizeof : VSp) : VTS := vSeq (vSet 7 (vC .none)) (t_lawk54_17 p_Lpool p_Lrowv8 p_Lkind p_Ltake p_Llonged p_Lislong p_Lspelt p_Ltoldv13 p_sizeof)
def t_lawk54_19 (p_Lpool p_Lrowv8 p_Lkind p_Ltake p_Llonged p_Lislong p_Lspelt p_Ltoldv13 p_sizeof : VSp) : VTS := vSeq (vIfS (vTest (v2 (xEq false) (vN (opCallK ownD p_Ltake) (vCons (vVar 2) (vCons (vC (.int 3)) vNil))) (vC (.int 0)))) (t_lawk54_4 p_Lpool p_Lrowv8 p_Lkind p_Ltake p_Llonged p_Lislong p_Lspelt p_Ltoldv13 p_sizeof) (t_lawk54_6 p_Lpool p_Lrowv8 p_Lkind p_Ltake p_Llonged p_Lislong p_Lspelt p_Ltoldv13 p_sizeof)) (t_lawk54_18 p_Lpool p_Lrowv8 p_Lkind p_Ltake p_Llonged p_Lislong p_Lspelt p_Ltoldv13 p_sizeof)
def t_lawk54_20 (p_Lpool p_Lrowv8 p_Lkind p_Ltake p_Llonged p_Lislong p_Lspelt p_Ltoldv13 p_sizeof : VSp) : VTS := vSeq (vSet 5 (vN (opCallK ownD p_Llonged) (vCons (vVar 2) (vCons (vVar 3) (vCons (vVar 4) (vCons (vN opTup (vCons (vC (.int 0)) (vCons (v2 opAdd (vC (.int 1)) (vN (opCallK ownD p_Ltake) (vCons (vVar 2) (vCons (vC (.int 2)) vNil)))) vNil))) vNil)))))) (t_lawk54_19 p_Lpool p_Lrowv8 p_Lkind p_Ltake p_Llonged p_Lislong p_Lspelt p_Ltoldv13 p_sizeof)
def t_lawk54_21 (p_Lpool p_Lrowv8 p_Lkind p_Ltake p_Llonged p_Lislong p_Lspelt p_Ltoldv13 p_sizeof : VSp) : VTS := vSeq (vSet 4 (vN (opCallK ownD p_Lkind) (vCons (vVar 2) (vCons (v2 opAdd (vC (.int 1)) (vN (opCallK ownD p_Ltake) (vCons (vVar 2) (vCons (vC (.int 4)) vNil)))) (vCons (vN opLst (vCons (vC (.str "a")) (vCons (vC (.str "b")) vNil))) vNil))))) (t_lawk54_20 p_Lpool p_Lrowv8 p_Lkind p_Ltake p_Llonged p_Lislong p_Lspelt p_Ltoldv13 p_sizeof)
def t_lawk54_22 (p_Lpool p_Lrowv8 p_Lkind p_Ltake p_Llonged p_Lislong p_Lspelt p_Ltoldv13 p_sizeof : VSp) : VTS := vSeq (vSet 3 (vN (opCallK ownD p_Lrowv8) (vCons (vVar 2) vNil))) (t_lawk54_21 p_Lpool p_Lrowv8 p_Lkind p_Ltake p_Llonged p_Lislong p_Lspelt p_Ltoldv13 p_sizeof)
def t_lawk54_23 (p_Lpool p_Lrowv8 p_Lkind p_Ltake p_Llonged p_Lislong p_Lspelt p_Ltoldv13 p_sizeof : VSp) : VTS := vSeq (vSet 2 (vN (opCallK ownO p_Lpool) (vCons (vVar 0) (vCons (vVar 1) vNil)))) (t_lawk54_22 p_Lpool p_Lrowv8 p_Lkind p_Ltake p_Llonged p_Lislong p_Lspelt p_Ltoldv13 p_sizeof)
def t_lawk54_24 (p_Lpool p_Lrowv8 p_Lkind p_Ltake p_Llonged p_Lislong p_Lspelt p_Ltoldv13 p_sizeof : VSp) : VTS := (vRet (vC (.bool true)))
def t_lawk54_25 (p_Lpool p_Lrowv8 p_Lkind p_Ltake p_Llonged p_Lislong p_Lspelt p_Ltoldv13 p_sizeof : VSp) : VTS := vSeq (vForW (vRng1 (vCons (vN (opII gMax) (vCons (vC (.int 1)) (vCons (vN (opII gMin) (vCons (vN opLen (vCons (vVar 0) vNil)) (vCons (vC (.int 8)) vNil))) vNil))) vNil)) (vgName 1)
      (t_lawk54_23 p_Lpool p_Lrowv8 p_Lkind p_Ltake p_Llonged p_Lislong p_Lspelt p_Ltoldv13 p_sizeof)) (t_lawk54_24 p_Lpool p_Lrowv8 p_Lkind p_Ltake p_Llonged p_Lislong p_Lspelt p_Ltoldv13 p_sizeof)
def t_lawk54 (p_Lpool p_Lrowv8 p_Lkind p_Ltake p_Llonged p_Lislong p_Lspelt p_Ltoldv13 p_sizeof : VSp) : VTS := (t_lawk54_25 p_Lpool p_Lrowv8 p_Lkind p_Ltake p_Llonged p_Lislong p_Lspelt p_Ltoldv13 p_sizeof)
theorem sp_nmc (rn : List Str) : ∀ (p : Pg), (∀ (S : List Kd) (k : Kd) (i w : Nat) (L : List Spt), spA rn p S = some (k, i, w, L) → L.length + 1 = nmc p) ∧ (∀ (S : List Kd) (κ : Kd) (L : List Spt), spB rn p S κ = some L → L.length = nmc p) := by
  have fin : ∀ (p : Pg), (∀ (S : List Kd) (k : Kd) (i w : Nat) (L : List Spt), spA rn p S = some (k, i, w, L) → L.length + 1 = nmc p) → ∀ (S : List Kd) (m : Str) (L : List Spt), spB rn p S (.mark m) = some L → L.length = nmc p := fun p h S m L e => by
    rw [spB_mark] at e
    cases hs : spA rn p S with
    | none => rw [hs] at e; cases e
    | some y =>
      obtain ⟨k, i, w, L'⟩ := y
      rw [hs] at e
      cases k with
      | mark m' =>
        simp only [finS] at e
        split at e
        · cases e
          rw [List.length_cons]
          exact h S _ _ _ _ hs
        · cases e
      | _ => cases e
  intro p
  induction p with
  | name x =>
    have h1 : ∀ (S : List Kd) (k : Kd) (i w : Nat) (L : List Spt), spA rn (.name x) S = some (k, i, w, L) → L.length + 1 = nmc (.name x) := fun S k i w L e => by
      have e' : ((nmAt rn x).bind fun i => (S[i]?).map fun k => (k, i, 0, ([] : List Spt))) = some (k, i, w, L) := e
      obtain ⟨j, _, h2⟩ := Option.bind_eq_some_iff.mp e'
      obtain ⟨k', _, h4⟩ := Option.map_eq_some_iff.mp h2
      cases h4
      rfl
    refine ⟨h1, fun S κ L e => ?_⟩
    cases κ with
    | mark m => exact fin _ h1 S m L e
    | _ => cases e
  | first q ih =>
    have h1 : ∀ (S : List Kd) (k : Kd) (i w : Nat) (L : List Spt), spA rn (.first q) S = some (k, i, w, L) → L.length + 1 = nmc (.first q) := fun S k i w L e => by
      have e' : (match spA rn q S with
        | some (.both a _, i, w, L) => some (a, i, w, L)
        | _ => none) = some (k, i, w, L) := e
      split at e'
      · rename_i hq
        cases e'
        exact ih.1 _ _ _ _ _ hq
      · cases e'
    refine ⟨h1, fun S κ L e => ?_⟩
    cases κ with
    | mark m => exact fin _ h1 S m L e
    | _ => cases e
  | second q ih =>
    have h1 : ∀ (S : List Kd) (k : Kd) (i w : Nat) (L : List Spt), spA rn (.second q) S = some (k, i, w, L) → L.length + 1 = nmc (.second q) := fun S k i w L e => by
      have e' : (match spA rn q S with
        | some (.both a b, i, w, L) => some (b, i, w + a.nways, L)
        | _ => none) = some (k, i, w, L) := e
      split at e'
      · rename_i hq
        cases e'
        exact ih.1 _ _ _ _ _ hq
      · cases e'
    refine ⟨h1, fun S κ L e => ?_⟩
    cases κ with
    | mark m => exact fin _ h1 S m L e
    | _ => cases e
  | give q g ihq ihg =>
    have h1 : ∀ (S : List Kd) (k : Kd) (i w : Nat) (L : List Spt), spA rn (.give q g) S = some (k, i, w, L) → L.length + 1 = nmc (.give q g) := fun S k i w L e => by
      have e' : (match spA rn q S with
        | some (.to a b, i, w, L) => (spB rn g S a).map fun L' => (b, i, w, L ++ L')
        | _ => none) = some (k, i, w, L) := e
      split at e'
      · rename_i hq
        obtain ⟨L', h3, h4⟩ := Option.map_eq_some_iff.mp e'
        cases h4
        have h5 := ihq.1 _ _ _ _ _ hq
        have h6 := ihg.2 _ _ _ h3
        simp only [nmc, List.length_append]
        omega
      · cases e'
    refine ⟨h1, fun S κ L e => ?_⟩
    cases κ with
    | mark m => exact fin _ h1 S m L e
    | _ => cases e
  | pair q g ihq ihg =>
    refine ⟨fun _ _ _ _ _ e => (by cases e), fun S κ L e => ?_⟩
    cases κ with
    | both a b =>
      have e' : ((spB rn q S a).bind fun x => (spB rn g S b).map fun y => x ++ y) = some L := e
      obtain ⟨x, h1, h2⟩ := Option.bind_eq_some_iff.mp e'
      obtain ⟨y, h3, h4⟩ := Option.map_eq_some_iff.mp h2
      subst h4
      have h5 := ihq.2 _ _ _ h1
      have h6 := ihg.2 _ _ _ h3
      simp only [nmc, List.length_append]
      omega
    | _ => cases e
  | take x κ q ih =>
    refine ⟨fun _ _ _ _ _ e => (by cases e), fun S k L e => ?_⟩
    cases k with
    | to a b =>
      have e' : (if kdOk κ ∧ x = xN (S.length - rn.length) ∧ κ = a then spB rn q (S ++ [a]) b else none) = some L := e
      split at e'
      · exact ih.2 _ _ _ e'
      · cases e'
    | _ => cases e
  | thing =>
    refine ⟨fun _ _ _ _ _ e => (by cases e), fun S k L e => ?_⟩
    cases k with
    | one => cases e; rfl
    | _ => cases e
def encSp (s : Spt) : D := .tuple [.int (s.i : Nat), .int (s.w : Nat)]
def row54 (M : List Str) (r : List (Str × Kd)) (k : Kd) (p : Pg) : Prop := RowOk M r ∧ kOk M k ∧ p.ov M ∧ p.size ≤ 50000
def xSpl (M : List Str) : VSx := fun ss st Kp Ep => ∃ (r : List (Str × Kd)) (k : Kd) (p : Pg), row54 M r k p ∧ ss = [.val (.list (r.map encB)), .val k.enc, .val p.enc] ∧ st = [] ∧ (match spB (r.map (·.1)) p (r.map (·.2)) k with
  | none => Ep ⟨"NoLong", []⟩ []
  | some L => Kp (.val (.list (L.map encSp))) [])
def xNmb (M : List Str) : VSx := fun ss st Kp Ep => ∃ (r : List (Str × Kd)) (k : Kd) (p : Pg), row54 M r k p ∧ ss = [.val (.list (r.map encB)), .val k.enc, .val p.enc] ∧ st = [] ∧ spB (r.map (·.1)) p (r.map (·.2)) k = none ∧ Ep ⟨"NoLong", []⟩ []
theorem r_Spl {M : List Str} {ss cs Kp Ep} (h : xSpl M ss cs Kp Ep) : t_spellingofX (pSpots M) (dX cs.length Kp Ep) ⟨startV 8 ss, cs.map some⟩ := by
  obtain ⟨r, k, p, ⟨ro, kk, po, ps⟩, rfl, rfl, q⟩ := h
  ktr_call "q5" ⟨t_spellingofX, t_spellingofX_4⟩
  refine ⟨r, k, ro.nd, ro.nx, ro.kd, ro.len, kk, rfl, .inl ⟨p, po, ps, rfl, ?_⟩⟩
  cases hs : spB (r.map (·.1)) p (r.map (·.2)) k with
  | none =>
    rw [hs] at q
    ktr_call "q5" ⟨t_spellingofX_3, t_spellingofX_1⟩
    exact q
  | some L =>
    rw [hs] at q
    have hl := (sp_nmc _ p).2 _ _ _ hs
    have hl2 := nmc_size p
    ktr_call "q5" ⟨t_spellingofX_3⟩
    rw [vNext_mk]
    ktr_call "q5" ⟨t_spellingofX_2⟩
    refine cl_mapE encSpt encSp L (big (by simp only [List.length_nil]; omega)) (fun v Kt hv hk' => ?_) ?_
    · ktr_call "q5" ⟨encSpt⟩
      exact hk' _ rfl
    · ktr_call "q5" ⟨List.nil_append⟩
      exact q
theorem r_Nmb {M : List Str} {ss cs Kp Ep} (h : xNmb M ss cs Kp Ep) : t_numberofX (xSpl M) (dX cs.length Kp Ep) ⟨startV 16 ss, cs.map some⟩ := by
  obtain ⟨r, k, p, hr, rfl, rfl, hn, q⟩ := h
  ktr_call "q5" ⟨t_numberofX, t_numberofX_1, vDead⟩
  refine ⟨r, k, p, hr, rfl, rfl, ?_⟩
  rw [hn]
  ktr_call "q5" "0"
  exact q
def optL (o : Option (List Spt)) : D := match o with
  | none => .none
  | some L => .list (L.map encSp)
def pTld (M : List Str) : VSp := fun ss st Kp => ∃ (r : List (Str × Kd)) (k : Kd) (p : Pg) (d : Nat), row54 M r k p ∧ ss = [.val (.list (r.map encB)), .val k.enc, .val p.enc, .val (.int (d : Nat))] ∧ st = [] ∧ (d = 0 ∧ Kp (.val (optL (spB (r.map (·.1)) p (r.map (·.2)) k))) [] ∨ d = 1 ∧ spB (r.map (·.1)) p (r.map (·.2)) k = none ∧ Kp (.val .none) [])
theorem r_Tld {M : List Str} {g1 g2 : Addr} {ss cs Kp} (h : pTld M ss cs Kp) : t_Ltoldv13 g1 g2 (xSpl M) (xNmb M) (dV cs.length Kp) ⟨startV 6 ss, cs.map some⟩ := by
  obtain ⟨r, k, p, d, hr, rfl, rfl, h⟩ := h
  have t1 : xsub "NoLong" "KindError" = true := by decide +kernel
  have t2 : xsub "NoLong" "NoLong" = true := by decide +kernel
  rcases h with ⟨rfl, q⟩ | ⟨rfl, hn, q⟩
  · ktr_call "q5" ⟨t_Ltoldv13, t_Ltoldv13_7, t_Ltoldv13_6, t_Ltoldv13_1, xCallW⟩
    refine ⟨by omega, g1, _, rfl, rfl, ?_⟩
    refine ⟨r, k, p, hr, rfl, rfl, ?_⟩
    cases hs : spB (r.map (·.1)) p (r.map (·.2)) k with
    | some L =>
      rw [hs] at q
      ktr_call "q5" ⟨t_Ltoldv13_5⟩
      exact q
    | none =>
      rw [hs] at q
      ktr_call "q5" "0"
      refine ⟨List.mem_singleton.mpr rfl, fun _ a => ?_, fun e => absurd e (by decide +kernel)⟩
      ktr_call "q5" ⟨t_Ltoldv13_4, t_Ltoldv13_3, t2⟩
      exact q
  · ktr_call "q5" ⟨t_Ltoldv13, t_Ltoldv13_7, t_Ltoldv13_6, t_Ltoldv13_1, xCallW⟩
    refine ⟨by omega, g2, _, rfl, rfl, ?_⟩
    refine ⟨r, k, p, hr, rfl, rfl, hn, ?_⟩
    ktr_call "q5" "0"
    refine ⟨List.mem_singleton.mpr rfl, fun _ a => ?_, fun e => absurd e (by decide +kernel)⟩
    ktr_call "q5" ⟨t_Ltoldv13_4, t_Ltoldv13_3, t2⟩
    exact q
def Mv.wd : Mv → Str
  | .one => "first"
  | .two => "second"
  | .kd _ => "give"
def Mo.wd : Mo → Str
  | .fst => "first"
  | .snd => "second"
  | .giv _ => "give"
/-- what is given along a way -/
def lzW : List Mv → List Mo → List (Kd × Pg)
  | .kd a :: mv, .giv q :: ms => (a, q) :: lzW mv ms
  | _ :: mv, _ :: ms => lzW mv ms
  | _, _ => []
theorem goK_way : ∀ (ms : List Mo) {k : Kd} {m : Str} {w : Nat} {L : List (Kd × Pg)}, goK k ms = some (.mark m, w, L) → ∃ mv, (wayL k)[w]? = some (mv, m) ∧ mv.map Mv.wd = ms.map Mo.wd ∧ lzW mv ms = L ∧ ∀ (j : Nat) (mv' : List Mv) (m' : Str), (wayL k)[j]? = some (mv', m') → mv'.map Mv.wd = ms.map Mo.wd → j = w
  | [], k, m, w, L, h => by
    rw [goK_nil] at h
    cases h
    refine ⟨[], rfl, rfl, rfl, fun j mv' m' hj _ => ?_⟩
    have := (List.getElem?_eq_some_iff.mp hj).1
    simp only [wayL, List.length_singleton] at this
    omega
  | x :: ms, k, m, w, L, h => by
    cases k with
    | mark _ => cases x <;> cases h
    | one => cases x <;> cases h
    | to a b =>
      cases x with
      | giv q =>
        simp only [goK] at h
        obtain ⟨r, h1, h2⟩ := Option.map_eq_some_iff.mp h
        obtain ⟨k1, w1, L1⟩ := r
        cases h2
        obtain ⟨mv, g1, g2, g3, g4⟩ := goK_way ms h1
        refine ⟨.kd a :: mv, ?_, ?_, ?_, fun j mv' m' hj hw => ?_⟩
        · rw [wayL, List.getElem?_map, g1]
          rfl
        · rw [List.map_cons, List.map_cons, g2]
          rfl
        · rw [lzW, g3]
        · rw [wayL, List.getElem?_map] at hj
          obtain ⟨y, hy, he⟩ := Option.map_eq_some_iff.mp hj
          cases he
          rw [List.map_cons, List.map_cons] at hw
          exact g4 j y.1 y.2 hy (List.cons.inj hw).2
      | _ => cases h
    | both a b =>
      have la := wayL_len a
      cases x with
      | giv q => cases h
      | fst =>
        simp only [goK] at h
        obtain ⟨mv, g1, g2, g3, g4⟩ := goK_way ms h
        have hl := (List.getElem?_eq_some_iff.mp g1).1
        refine ⟨.one :: mv, ?_, ?_, ?_, fun j mv' m' hj hw => ?_⟩
        · rw [wayL, List.getElem?_append_left (by rw [List.length_map]; exact hl), List.getElem?_map, g1]
          rfl
        · rw [List.map_cons, List.map_cons, g2]
          rfl
        · rw [lzW, g3]
          all_goals (intros; simp_all)
        · rw [wayL] at hj
          by_cases hj2 : j < (wayL a).length
          · rw [List.getElem?_append_left (by rw [List.length_map]; exact hj2), List.getElem?_map] at hj
            obtain ⟨y, hy, he⟩ := Option.map_eq_some_iff.mp hj
            cases he
            rw [List.map_cons, List.map_cons] at hw
            exact g4 j y.1 y.2 hy (List.cons.inj hw).2
          · rw [List.getElem?_append_right (by rw [List.length_map]; omega), List.getElem?_map] at hj
            obtain ⟨y, hy, he⟩ := Option.map_eq_some_iff.mp hj
            cases he
            rw [List.map_cons, List.map_cons] at hw
            exact absurd (List.cons.inj hw).1 (by decide +kernel)
      | snd =>
        simp only [goK] at h
        obtain ⟨r, h1, h2⟩ := Option.map_eq_some_iff.mp h
        obtain ⟨k1, w1, L1⟩ := r
        cases h2
        obtain ⟨mv, g1, g2, g3, g4⟩ := goK_way ms h1
        refine ⟨.two :: mv, ?_, ?_, ?_, fun j mv' m' hj hw => ?_⟩
        · rw [wayL, List.getElem?_append_right (by rw [List.length_map, la]; omega), List.length_map, la, show a.nways + w1 - a.nways = w1 by omega, List.getElem?_map, g1]
          rfl
        · rw [List.map_cons, List.map_cons, g2]
          rfl
        · rw [lzW, g3]
          all_goals (intros; simp_all)
        · rw [wayL] at hj
          by_cases hj2 : j < (wayL a).length
          · rw [List.getElem?_append_left (by rw [List.length_map]; exact hj2), List.getElem?_map] at hj
            obtain ⟨y, hy, he⟩ := Option.map_eq_some_iff.mp hj
            cases he
            rw [List.map_cons, List.map_cons] at hw
            exact absurd (List.cons.inj hw).1 (by decide +kernel)
          · rw [List.getElem?_append_right (by rw [List.length_map]; omega), List.getElem?_map, List.length_map, la] at hj
            obtain ⟨y, hy, he⟩ := Option.map_eq_some_iff.mp hj
            cases he
            rw [List.map_cons, List.map_cons] at hw
            have := g4 _ y.1 y.2 hy (List.cons.inj hw).2
            show j = a.nways + w1
            omega
theorem goK_gd {M : List Str} : ∀ (ms : List Mo) {k k' : Kd} {w : Nat} {L : List (Kd × Pg)}, kGd M k → goK k ms = some (k', w, L) → kGd M k' ∧ ∀ x ∈ L, kGd M x.1 ∧ Mo.giv x.2 ∈ ms
  | [], k, k', w, L, h, e => by
    rw [goK_nil] at e
    cases e
    exact ⟨h, fun x hx => by cases hx⟩
  | x :: ms, k, k', w, L, h, e => by
    cases k with
    | mark _ => cases x <;> cases e
    | one => cases x <;> cases e
    | to a b =>
      cases x with
      | giv q =>
        simp only [goK] at e
        obtain ⟨r, h1, h2⟩ := Option.map_eq_some_iff.mp e
        obtain ⟨k1, w1, L1⟩ := r
        cases h2
        have ih := goK_gd ms h.to.2 h1
        refine ⟨ih.1, fun x hx => ?_⟩
        rcases List.mem_cons.mp hx with rfl | hx
        · exact ⟨h.to.1, List.mem_cons_self⟩
        · exact ⟨(ih.2 x hx).1, List.mem_cons_of_mem _ (ih.2 x hx).2⟩
      | _ => cases e
    | both a b =>
      cases x with
      | giv q => cases e
      | fst =>
        simp only [goK] at e
        have ih := goK_gd ms h.both.1 e
        exact ⟨ih.1, fun x hx => ⟨(ih.2 x hx).1, List.mem_cons_of_mem _ (ih.2 x hx).2⟩⟩
      | snd =>
        simp only [goK] at e
        obtain ⟨r, h1, h2⟩ := Option.map_eq_some_iff.mp e
        obtain ⟨k1, w1, L1⟩ := r
        cases h2
        have ih := goK_gd ms h.both.2 h1
        exact ⟨ih.1, fun x hx => ⟨(ih.2 x hx).1, List.mem_cons_of_mem _ (ih.2 x hx).2⟩⟩
theorem spine_dp : ∀ (p q : Pg), Mo.giv q ∈ p.spine.2 → q.deep + 1 ≤ p.deep ∧ q.size + 1 ≤ p.size
  | .name _, q, h => by cases h
  | .take _ _ _, q, h => by cases h
  | .pair _ _, q, h => by cases h
  | .thing, q, h => by cases h
  | .first p, q, h => by
    simp only [Pg.spine, List.mem_append, List.mem_singleton, reduceCtorEq, or_false] at h
    have := spine_dp p q h
    simp only [Pg.deep, Pg.size]
    omega
  | .second p, q, h => by
    simp only [Pg.spine, List.mem_append, List.mem_singleton, reduceCtorEq, or_false] at h
    have := spine_dp p q h
    simp only [Pg.deep, Pg.size]
    omega
  | .give p g, q, h => by
    simp only [Pg.spine, List.mem_append, List.mem_singleton, Mo.giv.injEq] at h
    rcases h with h | rfl
    · have := spine_dp p q h
      simp only [Pg.deep, Pg.size]
      omega
    · simp only [Pg.deep, Pg.size]
      omega
def pFit : VSp := fun ss st Kp => ∃ (mv : List Mv) (ms : List Mo) (ps : List Pg), MosP ms ps ∧ mv.length ≤ 1000 ∧ ps.length ≤ 1000 ∧ ss = [.val (encMs mv), .val (.list (ps.map Pg.enc))] ∧ st = [] ∧ Kp (.val (.bool (decide (mv.map Mv.wd = ms.map Mo.wd)))) []
theorem MosP.wd : ∀ {ms : List Mo} {ps : List Pg}, MosP ms ps → ms.map Mo.wd = ps.map Pg.word
  | _, _, .nil => rfl
  | _, _, .cons a b => by
    rw [List.map_cons, List.map_cons, MosP.wd b]
    cases a <;> rfl
theorem Mv.wd_ok (v : Mv) : PyData.strOk v.wd = true := by cases v <;> simp only [Mv.wd] <;> decide +kernel
theorem Pg.word_ok (p : Pg) : PyData.strOk p.word = true := by cases p <;> simp only [Pg.word] <;> decide +kernel
theorem r_Fit {ss cs Kp} (h : pFit ss cs Kp) : t_Lfit (dV cs.length Kp) ⟨startV 5 ss, cs.map some⟩ := by
  obtain ⟨mv, ms, ps, hm, ml, pl, rfl, rfl, q⟩ := h
  ktr_call "q4" ⟨t_Lfit, t_Lfit_2, encMs⟩
  refine cl_mapE Mv.enc (fun v => .str v.wd) mv (big (by simp only [List.length_nil]; omega)) (fun v Kt hv hk' => ?_) ?_
  · cases v with
    | kd k =>
      have hk2 : ∃ ds, k.enc = .tuple ds := by cases k <;> exact ⟨_, rfl⟩
      obtain ⟨ds, hds⟩ := hk2
      ktr_call "q4" ⟨Mv.enc, hds, vIsi⟩
      refine ⟨false, (by show kitB "tuple" "int" = some false; decide +kernel), ?_⟩
      ktr_call "q4" "0"
      exact hk' _ rfl
    | one =>
      ktr_call "q4" ⟨Mv.enc, vIsi⟩
      refine ⟨true, (by show kitB "int" "int" = some true; decide +kernel), ?_⟩
      ktr_call "q4" "0"
      exact hk' _ rfl
    | two =>
      ktr_call "q4" ⟨Mv.enc, vIsi⟩
      refine ⟨true, (by show kitB "int" "int" = some true; decide +kernel), ?_⟩
      ktr_call "q4" "0"
      exact hk' _ rfl
  ktr_call "q4" ⟨List.nil_append, t_Lfit_1⟩
  refine cl_mapE Pg.enc (fun v => .str v.word) ps (big (by simp only [List.length_nil]; omega)) (fun v Kt hv hk' => ?_) ?_
  · have hp : ∃ ds, v.enc = .tuple (.str v.word :: ds) := by cases v <;> exact ⟨_, rfl⟩
    obtain ⟨ds, hds⟩ := hp
    rw [hds]
    ktr_call "q4" "0"
    exact hk' _ rfl
  · ktr_call "q4" ⟨List.nil_append⟩
    have e1 : mv.map (fun v => PyData.str v.wd) = (mv.map Mv.wd).map .str := by rw [List.map_map]; rfl
    have e2 : ps.map (fun v => PyData.str v.word) = (ms.map Mo.wd).map .str := by rw [hm.wd, List.map_map]; rfl
    rw [e1, e2, eqv_strs2]
    refine ⟨okEq_of (shpS fun x hx => ?_) (shpS fun x hx => ?_), q⟩
    · obtain ⟨v, _, rfl⟩ := List.mem_map.mp hx
      exact v.wd_ok
    · rw [hm.wd] at hx
      obtain ⟨v, _, rfl⟩ := List.mem_map.mp hx
      exact v.word_ok
def pSpe (M : List Str) (N : Nat) : VSp := fun ss st Kp => ∃ (r : List (Str × Kd)) (T : List Kd) (k : Kd) (p : Pg) (L : List Spt), KnM M r T ∧ (∀ x ∈ r, PyData.strOk x.1 = true) ∧ kGd M k ∧ p.deep < N ∧ p.deep ≤ 150 ∧ T.length + p.deep ≤ 300 ∧ p.size ≤ 50000 ∧ spB (r.map (·.1)) p (r.map (·.2) ++ T) k = some L ∧ ss = [.val (.list ((kwn r T).map encB)), .val k.enc, .val p.enc] ∧ st = [] ∧ Kp (.val (.list (L.map encSp))) []
theorem kwn_snds (r : List (Str × Kd)) (T : List Kd) : (kwn r T).map (·.2) = r.map (·.2) ++ T := by
  have : ∀ (T : List Kd) (i : Nat), (tkn i T).map (·.2) = T := fun T => by
    induction T with
    | nil => intro i; rfl
    | cons a T ih => intro i; rw [tkn, List.map_cons, ih]
  unfold kwn
  rw [List.map_append, this]
theorem kwn_fsts_ok {r : List (Str × Kd)} (hr : ∀ x ∈ r, PyData.strOk x.1 = true) (T : List Kd) : ∀ z ∈ (kwn r T).map (·.1), PyData.strOk z = true := fun z hz => by
  obtain ⟨y, hy, rfl⟩ := List.mem_map.mp hz
  unfold kwn at hy
  rcases List.mem_append.mp hy with hy | hy
  · exact hr y hy
  · obtain ⟨j, _, h⟩ := tkn_mem (x := y.1) (k := y.2) hy
    rw [h]
    exact strOk_xN _
theorem idx_nd {ns : List Str} (nd : ns.Nodup) {i : Nat} {x : Str} (h : ns[i]? = some x) : ns.idxOf x = i := by
  obtain ⟨hl, he⟩ := List.getElem?_eq_some_iff.mp h
  rw [← he]
  exact nd.idxOf_getElem i hl
theorem nm_idx {M : List Str} {r : List (Str × Kd)} (ro : RowOk M r) {T : List Kd} {x : Str} {i : Nat} {k : Kd} (h1 : nmAt (r.map (·.1)) x = some i) (h2 : (r.map (·.2) ++ T)[i]? = some k) : x ∈ (kwn r T).map (·.1) ∧ ((kwn r T).map (·.1)).idxOf x = i := by
  have hk := kwn_back ro h1 h2
  refine ⟨List.mem_map.mpr ⟨_, hk, rfl⟩, ?_⟩
  obtain ⟨j, hj⟩ := List.getElem?_of_mem hk
  have e1 : ((kwn r T).map (·.1))[j]? = some x := by rw [List.getElem?_map, hj]; rfl
  have e2 := idx_nd (kwn_names ro T) e1
  rw [e2]
  by_cases hx : x ∈ r.map (·.1)
  · rw [nmAt_in hx] at h1
    cases h1
    have hl : (r.map (·.1)).idxOf x < (r.map (·.1)).length := List.idxOf_lt_length_of_mem hx
    have e3 : ((kwn r T).map (·.1))[(r.map (·.1)).idxOf x]? = some x := by
      unfold kwn
      rw [List.map_append, List.getElem?_append_left hl, List.getElem?_eq_getElem hl]
      exact congrArg some (List.getElem_idxOf hl)
    have := idx_nd (kwn_names ro T) e3
    omega
  · by_cases hq : ∃ j, x = xN j
    · obtain ⟨n, rfl⟩ := hq
      rw [nmAt_x hx, List.length_map] at h1
      cases h1
      have tk : ∀ (T : List Kd) (i j : Nat), j < T.length → ((tkn i T).map (·.1))[j]? = some (xN (i + j)) := fun T => by
        induction T with
        | nil => intro i j h; simp at h
        | cons a T ih =>
          intro i j h
          cases j with
          | zero => rfl
          | succ j =>
            rw [tkn, List.map_cons, List.getElem?_cons_succ, ih (i + 1) j (by simpa using h)]
            congr 2
            omega
      have hn : n < T.length := by
        have := (List.getElem?_eq_some_iff.mp h2).1
        rw [List.length_append, List.length_map] at this
        omega
      have e3 : ((kwn r T).map (·.1))[r.length + n]? = some (xN n) := by
        unfold kwn
        rw [List.map_append, List.getElem?_append_right (by rw [List.length_map]; omega), List.length_map, show r.length + n - r.length = n by omega, tk T 0 n hn, Nat.zero_add]
      have := idx_nd (kwn_names ro T) e3
      omega
    · rw [nmAt_no hx (fun j e => hq ⟨j, e⟩)] at h1
      cases h1
theorem range_one (w : Nat) : ∀ n : Nat, w < n → (List.range n).filter (fun j => decide (j = w)) = [w]
  | 0, h => by omega
  | n + 1, h => by
    rw [List.range_succ, List.filter_append]
    by_cases e : w = n
    · subst e
      rw [List.filter_eq_nil_iff.mpr (fun j hj => by have := List.mem_range.mp hj; simp; omega)]
      simp
    · rw [range_one w n (by omega)]
      have : ¬ n = w := fun z => e z.symm
      simp [this]
def lzP : List (Mv × Pg) → List (Kd × Pg)
  | [] => []
  | (.kd a, .give _ q) :: r => (a, q) :: lzP r
  | _ :: r => lzP r
theorem lzP_app : ∀ a b, lzP (a ++ b) = lzP a ++ lzP b
  | [], b => rfl
  | (v, p) :: a, b => by
    rw [List.cons_append]
    cases v with
    | kd k =>
      cases p <;> simp only [lzP, lzP_app a b, List.cons_append]
    | one => simp only [lzP, lzP_app a b]
    | two => simp only [lzP, lzP_app a b]
theorem lz_eq : ∀ (mv : List Mv) (ms : List Mo) (ps : List Pg), MosP ms ps → mv.map Mv.wd = ms.map Mo.wd → lzP (mv.zip ps) = lzW mv ms
  | [], ms, ps, _, _ => by simp [lzP, lzW]
  | v :: mv, [], _, _, h => by cases h
  | v :: mv, m :: ms, _, .cons (p := p) (ps := ps) a b, h => by
    rw [List.map_cons, List.map_cons] at h
    obtain ⟨h1, h2⟩ := List.cons.inj h
    have ih := lz_eq mv ms ps b h2
    rw [List.zip_cons_cons]
    cases a with
    | fst q =>
      cases v with
      | kd k => exact absurd h1 (by show ¬ Str.ofString "give" = Str.ofString "first"; decide +kernel)
      | one => simp only [lzP, lzW, ih]
      | two => simp only [lzP, lzW, ih]
    | snd q =>
      cases v with
      | kd k => exact absurd h1 (by show ¬ Str.ofString "give" = Str.ofString "second"; decide +kernel)
      | one => simp only [lzP, lzW, ih]
      | two => simp only [lzP, lzW, ih]
    | giv q g =>
      cases v with
      | kd k => simp only [lzP, lzW, ih]
      | one => exact absurd h1 (by show ¬ Str.ofString "first" = Str.ofString "give"; decide +kernel)
      | two => exact absurd h1 (by show ¬ Str.ofString "second" = Str.ofString "give"; decide +kernel)
def encZW (x : Mv × Pg) : D := .tuple [x.1.enc, x.2.enc]
theorem zipD_zw : ∀ (mv : List Mv) (ps : List Pg), zipD (mv.map Mv.enc) (ps.map Pg.enc) = (mv.zip ps).map encZW
  | [], ps => by simp [zipD]
  | v :: mv, [] => by simp [zipD]
  | v :: mv, p :: ps => by
    rw [List.map_cons, List.map_cons, zipD, zipD_zw mv ps]
    rfl
theorem seqE_split {rn : List Str} {a b : List Ent} {x : Ent} {L : List Spt} (h : seqE rn (a ++ x :: b) = some L) : ∃ la lx lb, seqE rn a = some la ∧ spB rn x.2.1 x.2.2 x.1 = some lx ∧ seqE rn b = some lb ∧ L = la ++ (lx ++ lb) := by
  obtain ⟨k, p, S⟩ := x
  rw [seqE_app] at h
  obtain ⟨la, h1, h2⟩ := Option.bind_eq_some_iff.mp h
  obtain ⟨lr, h3, h4⟩ := Option.map_eq_some_iff.mp h2
  rw [seqE] at h3
  obtain ⟨lx, h5, h6⟩ := Option.bind_eq_some_iff.mp h3
  obtain ⟨lb, h7, h8⟩ := Option.map_eq_some_iff.mp h6
  exact ⟨la, lx, lb, h1, h5, h7, by rw [← h4, ← h8]⟩
theorem zip_wd : ∀ (mv : List Mv) (ps : List Pg), mv.map Mv.wd = ps.map Pg.word → ∀ x ∈ mv.zip ps, x.1.wd = x.2.word
  | [], _, _, x, hx => by simp at hx
  | _ :: _, [], h, x, hx => by simp at hx
  | v :: mv, p :: ps, h, x, hx => by
    rw [List.map_cons, List.map_cons] at h
    obtain ⟨h1, h2⟩ := List.cons.inj h
    rw [List.zip_cons_cons] at hx
    rcases List.mem_cons.mp hx with rfl | hx
    · exact h1
    · exact zip_wd mv ps h2 x hx
theorem w_give {p : Pg} (h : Str.ofString "give" = p.word) : ∃ q r, p = .give q r := by
  cases p <;> simp only [Pg.word] at h <;> first | exact ⟨_, _, rfl⟩ | exact absurd h (by decide +kernel)
theorem r_Spe {M : List Str} (hM : okM M) {N : Nat} {ss cs Kp} (h : pSpe M (N + 1) ss cs Kp) : t_Lspelt (pSpe M N) (pLw 24) pFit (dV cs.length Kp) ⟨startV 12 ss, cs.map some⟩ := by
  obtain ⟨r, T, k, P, L, ko, rs, kk, hN, pd, hd, hz, hL, rfl, rfl, q⟩ := h
  have Ln := (sp_nmc _ P).2 _ _ _ hL
  have Lz := nmc_size P
  cases k with
  | one =>
    have e : L = [] := by cases P <;> first | (cases hL; rfl) | cases hL
    subst e
    ktr_call "q4" ⟨t_Lspelt, t_Lspelt_18, t_Lspelt_1, Kd.enc⟩
    exact q
  | both a b =>
    cases P with
    | pair p1 p2 =>
      have e : ((spB (r.map (·.1)) p1 (r.map (·.2) ++ T) a).bind fun x => (spB (r.map (·.1)) p2 (r.map (·.2) ++ T) b).map fun y => x ++ y) = some L := hL
      obtain ⟨x, h1, h2⟩ := Option.bind_eq_some_iff.mp e
      obtain ⟨y, h3, h4⟩ := Option.map_eq_some_iff.mp h2
      subst h4
      simp only [Pg.deep] at hN pd hd
      simp only [Pg.size] at hz Lz
      rw [List.length_append] at Ln
      ktr_call "q4" ⟨t_Lspelt, t_Lspelt_18, Kd.enc, Pg.enc⟩
      rw [vNext_mk]
      ktr_call "q4" ⟨t_Lspelt_17, t_Lspelt_2⟩
      refine ⟨r, T, a, p1, x, ko, rs, kk.both.1, by omega, by omega, by omega, by omega, h1, rfl, rfl, ?_⟩
      ktr_call "q4" "0"
      refine ⟨r, T, b, p2, y, ko, rs, kk.both.2, by omega, by omega, by omega, by omega, h3, rfl, rfl, ?_⟩
      ktr_call "q4" ⟨List.length_map⟩
      refine ⟨big (by omega), ?_⟩
      rw [← List.map_append]
      exact q
    | _ => cases hL
  | to a b =>
    cases P with
    | take x κ p' =>
      have e : (if kdOk κ ∧ x = xN ((r.map (·.2) ++ T).length - (r.map (·.1)).length) ∧ κ = a then spB (r.map (·.1)) p' ((r.map (·.2) ++ T) ++ [a]) b else none) = some L := hL
      split at e
      · rename_i hc
        obtain ⟨_, hx, rfl⟩ := hc
        rw [List.append_assoc] at e
        have el0 : (r.map (·.2) ++ T).length - (r.map (·.1)).length = T.length := by rw [List.length_append, List.length_map, List.length_map]; omega
        rw [el0] at hx
        subst hx
        simp only [Pg.deep] at hN pd hd
        simp only [Pg.size] at hz Lz
        have ek : (kwn r T).map encB ++ [.tuple [.str (xN T.length), κ.enc]] = (kwn r (T ++ [κ])).map encB := by rw [kwn_snoc, List.map_append]; rfl
        have el : ((kwn r T).map encB).length = r.length + T.length := by rw [List.length_map, kwn_len]
        have rl := ko.len
        ktr_call "q4" ⟨t_Lspelt, t_Lspelt_18, Kd.enc, Pg.enc⟩
        rw [vNext_mk]
        ktr_call "q4" ⟨t_Lspelt_17⟩
        rw [vNext_mk]
        ktr_call "q4" ⟨t_Lspelt_16, t_Lspelt_3, el, ek⟩
        refine ⟨big (by omega), r, T ++ [κ], b, p', L, ko.snoc kk.to.1, rs, kk.to.2, by omega, by omega, by rw [List.length_append, List.length_singleton]; omega, by omega, e, rfl, rfl, ?_⟩
        ktr_call "q4" "0"
        exact q
      · cases e
    | _ => cases hL
  | mark m =>
    rw [spB_spot] at hL
    obtain ⟨t, ht, hL2⟩ := Option.bind_eq_some_iff.mp hL
    obtain ⟨Ls, hs1, hs2⟩ := Option.map_eq_some_iff.mp hL2
    obtain ⟨x, MS, k0, hsp, hnm, hSi, hgo⟩ : ∃ x MS k0, P.spine = (.name x, MS) ∧ nmAt (r.map (·.1)) x = some t.1 ∧ (r.map (·.2) ++ T)[t.1]? = some k0 ∧ goK k0 MS = some (.mark m, t.2.1, t.2.2) := by
      unfold spotR at ht
      generalize hsp : P.spine = hs at ht
      obtain ⟨hd0, MS⟩ := hs
      cases hd0 with
      | name x =>
        simp only at ht
        obtain ⟨i, g1, g2⟩ := Option.bind_eq_some_iff.mp ht
        obtain ⟨k0, g3, g4⟩ := Option.bind_eq_some_iff.mp g2
        obtain ⟨y, g5, g6⟩ := Option.bind_eq_some_iff.mp g4
        obtain ⟨k', w, L'⟩ := y
        cases k' with
        | mark m' =>
          simp only at g6
          split at g6
          · rename_i hm
            subst hm
            cases g6
            exact ⟨x, MS, k0, rfl, g1, g3, g5⟩
          · cases g6
        | _ => cases g6
      | _ => cases ht
    obtain ⟨i, w, LK⟩ := t
    simp only at hs1 hs2 hnm hSi hgo
    obtain ⟨hx, hidx⟩ := nm_idx ko.ro hnm hSi
    have kdk : kGd M k0 := ko.kd (x, k0) (kwn_back ko.ro hnm hSi)
    obtain ⟨mv, hw1, hw2, hw3, hw4⟩ := goK_way MS hgo
    have gd := goK_gd MS kdk hgo
    have k0l := kdk.2.1
    ktr_call "q4" ⟨t_Lspelt, t_Lspelt_18, Kd.enc⟩
    rw [vNext_mk]
    ktr_call "q4" ⟨t_Lspelt_17⟩
    rw [vNext_mk]
    ktr_call "q4" ⟨t_Lspelt_16⟩
    rw [vNext_mk]
    ktr_call "q4" ⟨t_Lspelt_15, t_Lspelt_14⟩
    refine while_invW (fun n e => ∃ (p : Pg) (ps : List Pg) (ms : List Mo), e = ⟨[some (.val (.list ((kwn r T).map encB))), some (.val (.tuple [.str (Str.ofString "mark"), .str m])), some (.val p.enc), some (.val (.list (ps.map Pg.enc))), none, none, none, none, none, none, none, none], []⟩ ∧ n = p.size ∧ ps.length + p.deep ≤ P.deep ∧ MosP ms ps ∧ P.spine = (p.spine.1, p.spine.2 ++ ms)) ?_ (m := P.size) ⟨P, [], [], rfl, rfl, by simp, .nil, by simp⟩
    rintro n e Nx ⟨p, ps, ms, rfl, rfl, hl, hm, hs⟩ hk
    have step : ∀ (p' : Pg) (mo : Mo) (ds : List D) (wd : Str), MoP mo p → p.enc = .tuple (.str wd :: p'.enc :: ds) → p.spine = (p'.spine.1, p'.spine.2 ++ [mo]) → p'.size + 1 ≤ p.size → p'.deep + 1 ≤ p.deep → t_Lspelt_5 (pSpe M N) (pLw 24) pFit { nx := Nx, rt := (dV 0 Kp).rt, bk := t_Lspelt_13 (pSpe M N) (pLw 24) pFit (dV 0 Kp), ct := Nx, ex := (dV 0 Kp).ex } ⟨[some (.val (.list ((kwn r T).map encB))), some (.val (.tuple [.str (Str.ofString "mark"), .str m])), some (.val p.enc), some (.val (.list (ps.map Pg.enc))), none, none, none, none, none, none, none, none], []⟩ := fun p' mo ds wd hmo he hsp2 hsz hdp => by
      ktr_call "q4" ⟨t_Lspelt_5, List.length_map⟩
      refine ⟨big (by omega), ?_⟩
      ktr_call "q4" ⟨t_Lspelt_4, he⟩
      rw [← he]
      refine hk p'.size ⟨[some (.val (.list ((kwn r T).map encB))), some (.val (.tuple [.str (Str.ofString "mark"), .str m])), some (.val p'.enc), some (.val (.list (p.enc :: ps.map Pg.enc))), none, none, none, none, none, none, none, none], []⟩ 0 [] (by omega) (Nat.le_refl _) ⟨p', p :: ps, mo :: ms, rfl, rfl, by rw [List.length_cons]; omega, .cons hmo hm, ?_⟩
      rw [hs, hsp2, List.append_assoc]
      rfl
    have bad : ∀ hd1, p.spine.1 = hd1 → (∀ z, hd1 ≠ .name z) → False := fun hd1 h1 h2 => by
      rw [hsp] at hs
      have : Pg.name x = p.spine.1 := (Prod.mk.inj hs).1
      exact h2 x (by rw [← h1, this])
    cases p with
    | first p' =>
      have := step p' .fst [] _ (.fst p') rfl rfl (by simp only [Pg.size]; omega) (by simp only [Pg.deep]; omega)
      simp only [Pg.enc] at this
      ktr_call "q4" ⟨Pg.enc⟩
      exact this
    | second p' =>
      have := step p' .snd [] _ (.snd p') rfl rfl (by simp only [Pg.size]; omega) (by simp only [Pg.deep]; omega)
      simp only [Pg.enc] at this
      ktr_call "q4" ⟨Pg.enc⟩
      exact this
    | give p' g =>
      have := step p' (.giv g) [g.enc] _ (.giv p' g) rfl rfl (by simp only [Pg.size]; omega) (by simp only [Pg.deep]; omega)
      simp only [Pg.enc] at this
      ktr_call "q4" ⟨Pg.enc⟩
      exact this
    | take _ _ _ => exact (bad _ rfl (fun z h => by cases h)).elim
    | pair _ _ => exact (bad _ rfl (fun z h => by cases h)).elim
    | thing => exact (bad _ rfl (fun z h => by cases h)).elim
    | name z =>
      rw [hsp] at hs
      simp only [Pg.spine, List.nil_append, Prod.mk.injEq, Pg.name.injEq] at hs
      obtain ⟨rfl, rfl⟩ := hs
      ktr_call "q4" ⟨Pg.enc, t_Lspelt_13⟩
      have kl := kwn_len r T
      have rl := ko.len
      simp only [Pg.deep] at hl
      refine cl_mapE encB (fun y => .str y.1) (kwn r T) (big (by simp only [List.length_nil]; omega)) (fun v Kt hv hk' => ?_) ?_
      · ktr_call "q4" ⟨encB⟩
        exact hk' _ rfl
      ktr_call "q4" ⟨List.nil_append, opIndex⟩
      have en : (kwn r T).map (fun y => PyData.str y.1) = ((kwn r T).map (·.1)).map .str := by rw [List.map_map]; rfl
      rw [en, ixD_strs x hx, hidx, kOps_some]
      refine ⟨⟨shaped_strs (kwn_fsts_ok rs T), shaped_str (kwn_fsts_ok rs T x hx)⟩, ?_⟩
      have eat : atI ((kwn r T).map encB) ((i : Nat) : Int) = some (encB (x, k0)) := by
        have e1 : ((kwn r T).map (·.1))[i]? = some x := by
          have := List.idxOf_lt_length_of_mem hx
          rw [← hidx, List.getElem?_eq_getElem this]
          exact congrArg some (List.getElem_idxOf this)
        have e2 : ((kwn r T).map (·.2))[i]? = some k0 := by rw [kwn_snds]; exact hSi
        rw [List.getElem?_map] at e1 e2
        obtain ⟨y, hy, rfl⟩ := Option.map_eq_some_iff.mp e1
        rw [hy] at e2
        have e3 : y.2 = k0 := Option.some.inj e2
        rw [atI_n, List.getElem?_map, hy, ← e3]
        rfl
      ktr_call "q4" ⟨t_Lspelt_12, eat, encB⟩
      refine ⟨k0, by omega, by omega, rfl, rfl, ?_⟩
      have wl := wayL_len k0
      have wn := nways_le k0
      have wlt := (List.getElem?_eq_some_iff.mp hw1).1
      have pl := hm.len
      ktr_call "q4" ⟨t_Lspelt_11, List.length_map⟩
      refine ⟨by omega, by omega, ?_⟩
      rw [rng_eq]
      have wat : ∀ (j : Nat) (y : List Mv × Str), (wayL k0)[j]? = some y → atI ((wayL k0).map encWy) (0 + ((j : Nat) : Int)) = some (encWy y) := fun j y hy => by
        rw [Int.zero_add, atI_n, List.getElem?_map, hy]
        rfl
      refine cl_fm (chk := none) (fun (j : Nat) => PyData.int (0 + (j : Nat))) (fun (j : Nat) => PyData.int (0 + (j : Nat))) (fun j => match (wayL k0)[j]? with | some y => decide (y.2 = m) && decide (y.1.map Mv.wd = MS.map Mo.wd) | none => false) _ (by rw [List.length_range]; omega) True.intro ?_ ?_
      · intro j hj Ky Kn h1 h2
        have hjl : j < (wayL k0).length := by
          have := List.mem_range.mp hj
          omega
        obtain ⟨y, hy⟩ : ∃ y, (wayL k0)[j]? = some y := ⟨_, List.getElem?_eq_getElem hjl⟩
        have yl := wayL_row k0 y (List.mem_of_getElem? hy)
        rw [hy] at h1 h2
        ktr_call "q4" ⟨wat j y hy, encWy⟩
        by_cases hy2 : y.2 = m
        · rw [if_pos hy2]
          refine ⟨y.1, MS, ps, hm, by omega, by omega, rfl, rfl, ?_⟩
          ktr_call "q4" "0"
          by_cases hw : y.1.map Mv.wd = MS.map Mo.wd
          · rw [if_pos hw]
            exact h1 (show (decide (y.2 = m) && decide (y.1.map Mv.wd = MS.map Mo.wd)) = true by rw [decide_eq_true hy2, decide_eq_true hw]; rfl) _ rfl
          · rw [if_neg hw]
            exact h2 (show (decide (y.2 = m) && decide (y.1.map Mv.wd = MS.map Mo.wd)) = false by rw [decide_eq_true hy2, decide_eq_false hw]; rfl) _ rfl
        · rw [if_neg hy2]
          exact h2 (show (decide (y.2 = m) && decide (y.1.map Mv.wd = MS.map Mo.wd)) = false by rw [decide_eq_false hy2]; rfl) _ rfl
      have ef : (List.range (((wayL k0).length : Nat) : Int).toNat).filter (fun j => match (wayL k0)[j]? with | some y => decide (y.2 = m) && decide (y.1.map Mv.wd = MS.map Mo.wd) | none => false) = [w] := by
        rw [Int.toNat_natCast, ← range_one w _ wlt]
        refine List.filter_congr fun j hj => ?_
        by_cases e : j = w
        · subst e
          rw [hw1]
          show (decide (m = m) && decide (mv.map Mv.wd = MS.map Mo.wd)) = decide (j = j)
          rw [decide_eq_true hw2, decide_eq_true rfl, decide_eq_true rfl]
          rfl
        · rw [decide_eq_false e]
          cases hy : (wayL k0)[j]? with
          | none => rfl
          | some y =>
            show (decide (y.2 = m) && decide (y.1.map Mv.wd = MS.map Mo.wd)) = false
            rw [decide_eq_false (fun z => e (hw4 j y.1 y.2 hy z)), Bool.and_false]
      rw [ef]
      ktr_call "q4" ⟨List.map_cons, List.map_nil, t_Lspelt_10⟩
      ktr_call "q4" ⟨t_Lspelt_9, wat w (mv, m) hw1, encWy, encMs⟩
      rw [zipD_zw]
      have hzw := zip_wd mv ps (by rw [hw2, hm.wd])
      have hlz := lz_eq mv MS ps hm hw2
      rw [hw3] at hlz
      refine fl_invW (chk := none) encZW (mv.zip ps) (fun ys e => ∃ done : List Spt, seqE (r.map (·.1)) (ents (r.map (·.2) ++ T) (lzP ys)) = some done ∧ e = ⟨[some (.val (.list ((kwn r T).map encB))), some (.val (.tuple [.str (Str.ofString "mark"), .str m])), some (.val (.tuple [.str (Str.ofString "name"), .str x])), some (.val (.list (ps.map Pg.enc))), none, some (.val (.int (i : Nat))), some (.val (.list ((wayL k0).map encWy))), some (.val (.list [.int (0 + (w : Nat))])), some (.val (.list ((⟨r.map (·.2) ++ T, i, w, m⟩ :: done : List Spt).map encSp))), none, none, none], []⟩) (fun _ _ _ => trivial) ?_ ?_ ⟨[], rfl, by simp [encSp]⟩
      · rintro ys ⟨v, u⟩ zs e Nx hys ⟨done, hdn, rfl⟩ hk
        have hvw := hzw (v, u) (by rw [hys]; simp)
        cases v with
        | kd a =>
          obtain ⟨u1, u2, rfl⟩ := w_give hvw
          have es : ents (r.map (·.2) ++ T) LK = ents (r.map (·.2) ++ T) (lzP ys) ++ (a, u2, r.map (·.2) ++ T) :: ents (r.map (·.2) ++ T) (lzP zs) := by
            rw [← hlz, hys, lzP_app]
            simp [ents, lzP]
          have hin : (a, u2) ∈ LK := by
            rw [← hlz, hys, lzP_app]
            simp [lzP]
          rw [es] at hs1
          obtain ⟨la, lx, lb, g1, g2, g3, g4⟩ := seqE_split hs1
          rw [hdn] at g1
          cases g1
          have gk := gd.2 _ hin
          have gdp := spine_dp P u2 (by rw [hsp]; exact gk.2)
          have ll : L.length = 1 + (done.length + (lx.length + lb.length)) := by
            rw [← hs2, List.length_cons, g4, List.length_append, List.length_append]
            omega
          obtain ⟨ds, hds⟩ : ∃ ds, a.enc = .tuple ds := by cases a <;> exact ⟨_, rfl⟩
          ktr_call "q4" ⟨t_Lspelt_7, encZW, Mv.enc, vIsi⟩
          refine ⟨true, by rw [hds]; exact kit_tt _, ?_⟩
          rw [if_pos rfl]
          ktr_call "q4" ⟨t_Lspelt_6, Pg.enc⟩
          refine ⟨r, T, a, u2, lx, ko, rs, gk.1, by omega, by omega, by omega, by omega, g2, rfl, rfl, ?_⟩
          ktr_call "q4" ⟨List.length_map, List.length_cons⟩
          refine ⟨big (by omega), ?_⟩
          have em : encSp ⟨r.map (·.2) ++ T, i, w, m⟩ :: (done.map encSp ++ lx.map encSp) = (⟨r.map (·.2) ++ T, i, w, m⟩ :: (done ++ lx) : List Spt).map encSp := by simp
          rw [em]
          refine hk _ 0 [4, 9] (Nat.le_refl _) ⟨done ++ lx, ?_, rfl⟩
          rw [lzP_app, show ents (r.map (·.2) ++ T) (lzP ys ++ lzP [(.kd a, .give u1 u2)]) = ents (r.map (·.2) ++ T) (lzP ys) ++ [(a, u2, r.map (·.2) ++ T)] from by simp [ents, lzP], seqE_app, hdn]
          simp [seqE, g2]
        | one =>
          ktr_call "q4" ⟨t_Lspelt_7, encZW, Mv.enc, vIsi⟩
          refine ⟨false, by show kitB "int" "tuple" = some false; decide +kernel, ?_⟩
          rw [if_neg (by decide), vNext_mk]
          refine hk _ 0 [4, 9] (Nat.le_refl _) ⟨done, ?_, rfl⟩
          rw [lzP_app, show lzP [(.one, u)] = [] from rfl, List.append_nil]
          exact hdn
        | two =>
          ktr_call "q4" ⟨t_Lspelt_7, encZW, Mv.enc, vIsi⟩
          refine ⟨false, by show kitB "int" "tuple" = some false; decide +kernel, ?_⟩
          rw [if_neg (by decide), vNext_mk]
          refine hk _ 0 [4, 9] (Nat.le_refl _) ⟨done, ?_, rfl⟩
          rw [lzP_app, show lzP [(.two, u)] = [] from rfl, List.append_nil]
          exact hdn
      · rintro e ⟨done, hdn, rfl⟩
        rw [hlz, hs1] at hdn
        cases hdn
        ktr_call "q4" ⟨t_Lspelt_8⟩
        rw [← hs2] at q
        exact q
theorem Lg.lks {M : List Str} {r : List (Str × Kd)} (rs : ∀ x ∈ r, PyData.strOk x.1 = true) {bb : Bool} {T : List Kd} {k : Kd} {p : Pg} {ms : List Mk} (h : Lg r bb T k p ms) :
    (∀ x ∈ kwn r T, kGd M x.2) → (bb = true → kGd M k ∧ p.lk M) ∧ (bb = false → kGd M k → p.lk M) := by
  induction h with
  | @nm T x k h =>
    refine fun hk => ⟨fun _ => ⟨hk _ h, ?_⟩, fun e => by cases e⟩
    exact kwn_fsts_ok rs T x (List.mem_map.mpr ⟨_, h, rfl⟩)
  | @fs T a b q ms h ih =>
    exact fun hk => ⟨fun _ => ⟨((ih hk).1 rfl).1.both.1, ((ih hk).1 rfl).2⟩, fun e => by cases e⟩
  | @sn T a b q ms h ih =>
    exact fun hk => ⟨fun _ => ⟨((ih hk).1 rfl).1.both.2, ((ih hk).1 rfl).2⟩, fun e => by cases e⟩
  | @gv T a b q p ms ns h g ih jh =>
    exact fun hk => ⟨fun _ => ⟨((ih hk).1 rfl).1.to.2, ((ih hk).1 rfl).2, (jh hk).2 rfl ((ih hk).1 rfl).1.to.1⟩, fun e => by cases e⟩
  | @mk T m p ms h ih => exact fun hk => ⟨fun e => (by cases e), fun _ _ => ((ih hk).1 rfl).2⟩
  | @on T => exact fun hk => ⟨fun e => (by cases e), fun _ _ => trivial⟩
  | @bo T a b q p ms ns h g ih jh =>
    exact fun hk => ⟨fun e => (by cases e), fun _ ko => ⟨(ih hk).2 rfl ko.both.1, (jh hk).2 rfl ko.both.2⟩⟩
  | @ta T a b q ms hd h ih =>
    refine fun hk => ⟨fun e => (by cases e), fun _ ko => ⟨strOk_xN _, ko.to.1, (ih fun x hx => ?_).2 rfl ko.to.2⟩⟩
    rw [kwn_snoc] at hx
    rcases List.mem_append.mp hx with hx | hx
    · exact hk x hx
    · rw [List.mem_singleton.mp hx]
      exact ko.to.1
theorem ok4_g {k : Kd} (h : k.ok4) : kGd ab k := ⟨h.1, ok4_d h⟩
theorem knM {r : List (Str × Kd)} (rl : RowL r) : KnM ab r [] := ⟨rl.ro, fun x hx => by
  have : x ∈ r := by simpa [kwn, tkn] using hx
  exact ok4_g (rl.ok x this).2, by have := rl.len; omega⟩
theorem shp_sps (L : List Spt) : Vl.shp (.list (L.map encSp)) = true := by
  have h : PyData.canLayAll0 (L.map encSp) = true ∧ PyData.depthAll (L.map encSp) ≤ 1 := by
    induction L with
    | nil => exact ⟨by rw [List.map_nil, canAll_nil], by rw [List.map_nil, depthAll_nil]; omega⟩
    | cons s L ih =>
      rw [List.map_cons, canAll_cons, depthAll_cons, ih.1]
      have e1 : (encSp s).canLay0 = true := by
        unfold encSp
        rw [can_tup, canAll_cons, canAll_cons, canAll_nil, can_int, can_int]
        rfl
      have e2 : (encSp s).depth = 1 := by
        unfold encSp
        rw [depth_tup, depthAll_cons, depthAll_cons, depthAll_nil, depth_int, depth_int]
        rfl
      rw [e1, e2]
      exact ⟨rfl, by have := ih.2; omega⟩
  unfold Vl.shp
  rw [can_lst, depth_lst, h.1, decide_eq_true (by have := h.2; omega)]
  rfl
section
variable {ns : List Int} {r : List (Str × Kd)} {k : Kd} {p : Pg} {i : Nat} {c n : Int} {Nx B : En → Prop} {Kp : Sl → List Ob → Prop}
theorem law54t (rl : RowL r) (kg : kGd ab k) (pl : p.lk ab) (pd : p.deep ≤ 60) (ps : p.size ≤ 50000)
    (hk : ∀ (e' : En) (q : Nat) (fs : List Nat), 0 ≤ q → (e'.wk q fs = ⟨[some (.kn (ns.map .int)), none, none, none, none, none, none, none, none, none], []⟩) → Nx e') :
    t_lawk54_18 pPool pRw (pKind 4) pTake (pLgd 20) (pLiG ab 150) (pSpe ab 100) (pTld ab) pSz { nx := Nx, rt := (dV 0 Kp).rt, bk := B, ct := Nx, ex := (dV 0 Kp).ex } ⟨[some (.kn (ns.map .int)), some (.val (.int (0 + (i : Nat)))), some (.obj 0), some (.val (.list (r.map encB))), some (.val k.enc), some (.val p.enc), none, none, none, none], [some (.l [.int c, .int n])]⟩ := by
  have kd : ((kwn r []).map encB) = r.map encB := by simp [kwn, tkn]
  have es : r.map (·.2) ++ [] = r.map (·.2) := List.append_nil _
  have rw54 : row54 ab r k p := ⟨rl.ro, kg.ok, pl.ov, ps⟩
  ktr_call "q4" ⟨t_lawk54_18, t_lawk54_17⟩
  refine ⟨r, [], k, p, knM rl, kg, pl, by omega, by simp only [List.length_nil]; omega, by omega, by rw [kd]; rfl, rfl, ?_⟩
  rw [es]
  cases hs : spB (r.map (·.1)) p (r.map (·.2)) k with
  | none =>
    ktr_call "q4" ⟨Option.isSome_none⟩
    rw [vNext_mk]
    ktr_call "q4" ⟨t_lawk54_16⟩
    refine ⟨r, k, p, 0, rw54, rfl, rfl, .inl ⟨rfl, ?_⟩⟩
    rw [hs]
    ktr_call "q4" ⟨t_lawk54_15, optL⟩
    refine ⟨okEq_of (by decide +kernel) (by decide +kernel), ?_⟩
    rw [show PyData.eqv .none .none = true from by decide +kernel]
    rw [if_neg (by decide)]
    refine ⟨r, k, p, 1, rw54, rfl, rfl, .inr ⟨rfl, hs, ?_⟩⟩
    ktr_call "q4" "0"
    rw [vNext_mk]
    ktr_call "q4" ⟨t_lawk54_14⟩
    rw [vNext_mk]
    exact hk _ 0 [1, 2, 3, 4, 5, 6, 7, 8, 9] (Nat.le_refl _) rfl
  | some L =>
    have Ln := (sp_nmc _ p).2 _ _ _ hs
    have Lz := nmc_size p
    ktr_call "q4" ⟨Option.isSome_some⟩
    ktr_call "q4" ⟨t_lawk54_7⟩
    refine ⟨r, [], k, p, L, knM rl, fun x hx => (rl.ok x hx).1, kg, by omega, by omega, by simp only [List.length_nil]; omega, ps, by rw [es]; exact hs, by rw [kd], rfl, ?_⟩
    ktr_call "q4" ⟨t_lawk54_16⟩
    refine ⟨r, k, p, 0, rw54, rfl, rfl, .inl ⟨rfl, ?_⟩⟩
    rw [hs]
    ktr_call "q4" ⟨t_lawk54_15, optL⟩
    refine ⟨okEq_of (shp_sps L) (shp_sps L), ?_⟩
    rw [show PyData.eqv (.list (L.map encSp)) (.list (L.map encSp)) = true from SeqAt.eqv_refl _ (shp_can (shp_sps L))]
    rw [if_neg (by decide), vNext_mk]
    ktr_call "q4" ⟨t_lawk54_14⟩
    ktr_call "q4" ⟨t_lawk54_13, List.length_map⟩
    refine ⟨p, by omega, rfl, rfl, ?_⟩
    rw [Ln]
    ktr_call "q4" ⟨vIsi⟩
    refine ⟨true, by show kitB "list" "list" = some true; decide +kernel, ?_⟩
    rw [if_neg (by decide), vNext_mk]
    ktr_call "q4" ⟨t_lawk54_12⟩
    refine fl_invW (chk := none) encSp L (fun ys e => e = ⟨[some (.kn (ns.map .int)), some (.val (.int (0 + (i : Nat)))), some (.obj 0), some (.val (.list (r.map encB))), some (.val k.enc), some (.val p.enc), none, some (.val (.list (L.map encSp))), some (.val (.list (L.map encSp))), none], [some (.l [.int c, .int n])]⟩) (fun _ _ _ => trivial) ?_ ?_ rfl
    · rintro ys v zs e Nx2 hys rfl hk2
      ktr_call "q4" ⟨t_lawk54_11, encSp, vIsi⟩
      refine ⟨true, kit_tt _, ?_⟩
      rw [if_neg (by decide)]
      refine ⟨false, by show kitB "int" "bool" = some false; decide +kernel, ?_⟩
      rw [if_neg (by decide)]
      refine ⟨false, by show kitB "int" "bool" = some false; decide +kernel, ?_⟩
      rw [if_neg (by decide), vNext_mk]
      exact hk2 _ 1 [9] (Nat.le_refl _) rfl
    · rintro e rfl
      ktr_call "q4" "0"
      exact hk _ 0 [1, 2, 3, 4, 5, 6, 7, 8, 9] (Nat.le_refl _) rfl
end
section
variable {ns : List Int} {r : List (Str × Kd)} {k : Kd} {p : Pg} {i : Nat} {c n : Int} {ds ds2 : List D} {Nx B : En → Prop} {Kp : Sl → List Ob → Prop}
theorem law54u (rl : RowL r) (kg : kGd ab k) (pl : p.lk ab) (pd : p.deep ≤ 60) (ps : p.size ≤ 50000)
    (hk : ∀ (e' : En) (q : Nat) (fs : List Nat), 0 ≤ q → (e'.wk q fs = ⟨[some (.kn (ns.map .int)), none, none, none, none, none, none, none, none, none], []⟩) → Nx e') :
    t_lawk54_18 pPool pRw (pKind 4) pTake (pLgd 20) (pLiG ab 150) (pSpe ab 100) (pTld ab) pSz { nx := Nx, rt := (dV 0 Kp).rt, bk := B, ct := Nx, ex := (dV 0 Kp).ex } ⟨[some (.kn (ns.map .int)), some (.val (.int (0 + (i : Nat)))), some (.obj 0), some (.val (.list (r.map encB))), some (.val k.enc), some (.val p.enc), some (.obj 2), none, none, none], [some (.l [.int c, .int n]), some (.l ds), some (.l ds2)]⟩ := by
  have kd : ((kwn r []).map encB) = r.map encB := by simp [kwn, tkn]
  have es : r.map (·.2) ++ [] = r.map (·.2) := List.append_nil _
  have rw54 : row54 ab r k p := ⟨rl.ro, kg.ok, pl.ov, ps⟩
  ktr_call "q4" ⟨t_lawk54_18, t_lawk54_17⟩
  refine ⟨r, [], k, p, knM rl, kg, pl, by omega, by simp only [List.length_nil]; omega, by omega, by rw [kd]; rfl, rfl, ?_⟩
  rw [es]
  cases hs : spB (r.map (·.1)) p (r.map (·.2)) k with
  | none =>
    ktr_call "q4" ⟨Option.isSome_none⟩
    rw [vNext_mk]
    ktr_call "q4" ⟨t_lawk54_16⟩
    refine ⟨r, k, p, 0, rw54, rfl, rfl, .inl ⟨rfl, ?_⟩⟩
    rw [hs]
    ktr_call "q4" ⟨t_lawk54_15, optL⟩
    refine ⟨okEq_of (by decide +kernel) (by decide +kernel), ?_⟩
    rw [show PyData.eqv .none .none = true from by decide +kernel]
    rw [if_neg (by decide)]
    refine ⟨r, k, p, 1, rw54, rfl, rfl, .inr ⟨rfl, hs, ?_⟩⟩
    ktr_call "q4" "0"
    rw [vNext_mk]
    ktr_call "q4" ⟨t_lawk54_14⟩
    rw [vNext_mk]
    exact hk _ 0 [1, 2, 3, 4, 5, 6, 7, 8, 9] (Nat.le_refl _) rfl
  | some L =>
    have Ln := (sp_nmc _ p).2 _ _ _ hs
    have Lz := nmc_size p
    ktr_call "q4" ⟨Option.isSome_some⟩
    ktr_call "q4" ⟨t_lawk54_7⟩
    refine ⟨r, [], k, p, L, knM rl, fun x hx => (rl.ok x hx).1, kg, by omega, by omega, by simp only [List.length_nil]; omega, ps, by rw [es]; exact hs, by rw [kd], rfl, ?_⟩
    ktr_call "q4" ⟨t_lawk54_16⟩
    refine ⟨r, k, p, 0, rw54, rfl, rfl, .inl ⟨rfl, ?_⟩⟩
    rw [hs]
    ktr_call "q4" ⟨t_lawk54_15, optL⟩
    refine ⟨okEq_of (shp_sps L) (shp_sps L), ?_⟩
    rw [show PyData.eqv (.list (L.map encSp)) (.list (L.map encSp)) = true from SeqAt.eqv_refl _ (shp_can (shp_sps L))]
    rw [if_neg (by decide), vNext_mk]
    ktr_call "q4" ⟨t_lawk54_14⟩
    ktr_call "q4" ⟨t_lawk54_13, List.length_map⟩
    refine ⟨p, by omega, rfl, rfl, ?_⟩
    rw [Ln]
    ktr_call "q4" ⟨vIsi⟩
    refine ⟨true, by show kitB "list" "list" = some true; decide +kernel, ?_⟩
    rw [if_neg (by decide), vNext_mk]
    ktr_call "q4" ⟨t_lawk54_12⟩
    refine fl_invW (chk := none) encSp L (fun ys e => e = ⟨[some (.kn (ns.map .int)), some (.val (.int (0 + (i : Nat)))), some (.obj 0), some (.val (.list (r.map encB))), some (.val k.enc), some (.val p.enc), some (.obj 2), some (.val (.list (L.map encSp))), some (.val (.list (L.map encSp))), none], [some (.l [.int c, .int n]), some (.l ds), some (.l ds2)]⟩) (fun _ _ _ => trivial) ?_ ?_ rfl
    · rintro ys v zs e Nx2 hys rfl hk2
      ktr_call "q4" ⟨t_lawk54_11, encSp, vIsi⟩
      refine ⟨true, kit_tt _, ?_⟩
      rw [if_neg (by decide)]
      refine ⟨false, by show kitB "int" "bool" = some false; decide +kernel, ?_⟩
      rw [if_neg (by decide)]
      refine ⟨false, by show kitB "int" "bool" = some false; decide +kernel, ?_⟩
      rw [if_neg (by decide), vNext_mk]
      exact hk2 _ 3 [9] (Nat.le_refl _) rfl
    · rintro e rfl
      ktr_call "q4" "0"
      exact hk _ 0 [1, 2, 3, 4, 5, 6, 7, 8, 9] (Nat.le_refl _) rfl
end
structure P54 (p : Pg) : Prop where
  lk : p.lk ab
  dp : p.deep ≤ 60
  sz : p.size ≤ 50000
section
variable {ns : List Int} {r : List (Str × Kd)} {k : Kd} {p : Pg} {i : Nat} {c n : Int} {Nx B : En → Prop} {Kp : Sl → List Ob → Prop}
theorem law54v (rl : RowL r) (ko : k.ok4) (pl : p.lk ab) (pd : p.deep ≤ 40) (ps : p.size ≤ 20000) (pn : PoolK n)
    (hk : ∀ (e' : En) (q : Nat) (fs : List Nat), 0 ≤ q → (e'.wk q fs = ⟨[some (.kn (ns.map .int)), none, none, none, none, none, none, none, none, none], []⟩) → Nx e') :
    t_lawk54_4 pPool pRw (pKind 4) pTake (pLgd 20) (pLiG ab 150) (pSpe ab 100) (pTld ab) pSz { nx := t_lawk54_18 pPool pRw (pKind 4) pTake (pLgd 20) (pLiG ab 150) (pSpe ab 100) (pTld ab) pSz { nx := Nx, rt := (dV 0 Kp).rt, bk := B, ct := Nx, ex := (dV 0 Kp).ex }, rt := (dV 0 Kp).rt, bk := B, ct := Nx, ex := (dV 0 Kp).ex } ⟨[some (.kn (ns.map .int)), some (.val (.int (0 + (i : Nat)))), some (.obj 0), some (.val (.list (r.map encB))), some (.val k.enc), some (.val p.enc), none, none, none, none], [some (.l [.int c, .int n])]⟩ := by
  have kg := ok4_g ko
  have zok : PyData.strOk (Str.ofString "z") = true := by decide +kernel
  have fin : ∀ d6 : Pg, P54 d6 → t_lawk54_1 pPool pRw (pKind 4) pTake (pLgd 20) (pLiG ab 150) (pSpe ab 100) (pTld ab) pSz { nx := t_lawk54_18 pPool pRw (pKind 4) pTake (pLgd 20) (pLiG ab 150) (pSpe ab 100) (pTld ab) pSz { nx := Nx, rt := (dV 0 Kp).rt, bk := B, ct := Nx, ex := (dV 0 Kp).ex }, rt := (dV 0 Kp).rt, bk := B, ct := Nx, ex := (dV 0 Kp).ex } ⟨[some (.kn (ns.map .int)), some (.val (.int (0 + (i : Nat)))), some (.obj 0), some (.val (.list (r.map encB))), some (.val k.enc), some (.val p.enc), some (.obj 2), none, none, none], [some (.l [.int c, .int n]), some (.l [.tuple [.str (Str.ofString "name"), .str (Str.ofString "nobody")], .tuple [.str (Str.ofString "first"), p.enc], .tuple [.str (Str.ofString "pair"), p.enc, p.enc], .tuple [.str (Str.ofString "take"), .str (Str.ofString "x0"), k.enc, p.enc]]), some (.l [.tuple [.str (Str.ofString "name"), .str (Str.ofString "nobody")], .tuple [.str (Str.ofString "first"), p.enc], .tuple [.str (Str.ofString "pair"), p.enc, p.enc], .tuple [.str (Str.ofString "take"), .str (Str.ofString "x0"), k.enc, p.enc], .tuple [.str (Str.ofString "first"), .tuple [.str (Str.ofString "pair"), p.enc, p.enc]], .tuple [.str (Str.ofString "give"), .tuple [.str (Str.ofString "take"), .str (Str.ofString "y"), k.enc, .tuple [.str (Str.ofString "name"), .str (Str.ofString "y")]], p.enc], d6.enc])]⟩ := fun d6 h6 => by
    generalize hds : [PyData.tuple [.str (Str.ofString "name"), .str (Str.ofString "nobody")], .tuple [.str (Str.ofString "first"), p.enc], .tuple [.str (Str.ofString "pair"), p.enc, p.enc], .tuple [.str (Str.ofString "take"), .str (Str.ofString "x0"), k.enc, p.enc]] = ds
    generalize hes : [PyData.tuple [.str (Str.ofString "name"), .str (Str.ofString "nobody")], .tuple [.str (Str.ofString "first"), p.enc], .tuple [.str (Str.ofString "pair"), p.enc, p.enc], .tuple [.str (Str.ofString "take"), .str (Str.ofString "x0"), k.enc, p.enc], .tuple [.str (Str.ofString "first"), .tuple [.str (Str.ofString "pair"), p.enc, p.enc]], .tuple [.str (Str.ofString "give"), .tuple [.str (Str.ofString "take"), .str (Str.ofString "y"), k.enc, .tuple [.str (Str.ofString "name"), .str (Str.ofString "y")]], p.enc], d6.enc] = es
    have el : es.length = 7 := by rw [← hes]; rfl
    ktr_call "q4" ⟨t_lawk54_1, pTake⟩
    refine ⟨pn, fun l c1 n1 l0 l1 pn1 => ?_⟩
    obtain ⟨d, hd, hm⟩ := at_any (xs := es) l0 (by rw [el]; exact l1)
    rw [hd, kOpt_some]
    obtain ⟨u, rfl, hu⟩ : ∃ u : Pg, d = u.enc ∧ P54 u := by
      rw [← hes] at hm
      simp only [List.mem_cons, List.not_mem_nil, or_false] at hm
      rcases hm with rfl | rfl | rfl | rfl | rfl | rfl | rfl
      · exact ⟨.name (Str.ofString "nobody"), rfl, (by decide +kernel : PyData.strOk (Str.ofString "nobody") = true), by simp only [Pg.deep]; omega, by simp only [Pg.size]; omega⟩
      · exact ⟨.first p, rfl, pl, by simp only [Pg.deep]; omega, by simp only [Pg.size]; omega⟩
      · exact ⟨.pair p p, rfl, ⟨pl, pl⟩, by simp only [Pg.deep]; omega, by simp only [Pg.size]; omega⟩
      · exact ⟨.take (Str.ofString "x0") k p, rfl, ⟨by decide +kernel, kg, pl⟩, by simp only [Pg.deep]; omega, by simp only [Pg.size]; omega⟩
      · exact ⟨.first (.pair p p), rfl, ⟨pl, pl⟩, by simp only [Pg.deep]; omega, by simp only [Pg.size]; omega⟩
      · exact ⟨.give (.take (Str.ofString "y") k (.name (Str.ofString "y"))) p, rfl, ⟨⟨by decide +kernel, kg, (by decide +kernel : PyData.strOk (Str.ofString "y") = true)⟩, pl⟩, by simp only [Pg.deep]; omega, by simp only [Pg.size]; omega⟩
      · exact ⟨d6, rfl, h6⟩
    exact law54u rl kg hu.lk hu.dp hu.sz hk
  ktr_call "q4" ⟨t_lawk54_4⟩
  ktr_call "q4" ⟨t_lawk54_3⟩
  have dflt : ∀ (w : Str) (ds : List D), p.enc = .tuple (.str w :: ds) → ¬ w = Str.ofString "take" → P54 (.take (Str.ofString "z") k p) := fun w ds _ _ => ⟨⟨zok, kg, pl⟩, by simp only [Pg.deep]; omega, by simp only [Pg.size]; omega⟩
  cases p with
  | take x κ p' =>
    simp only [Pg.enc] at fin
    ktr_call "q4" ⟨t_lawk54_2, Pg.enc, List.length_cons, List.length_nil⟩
    exact ⟨by show 2 ≤ sizeLine; decide, by show 4 ≤ sizeLine; decide, by decide, fin (.take (Str.ofString "z") κ p') ⟨⟨zok, pl.2⟩, by simp only [Pg.deep] at pd ⊢; omega, by simp only [Pg.size] at ps ⊢; omega⟩⟩
  | name x =>
    simp only [Pg.enc] at fin
    ktr_call "q4" ⟨t_lawk54_2, Pg.enc, List.length_cons, List.length_nil⟩
    exact ⟨by show 2 ≤ sizeLine; decide, by show 2 ≤ sizeLine; decide, by decide, fin (.take (Str.ofString "z") k (.name x)) ⟨⟨zok, kg, pl⟩, by simp only [Pg.deep] at pd ⊢; omega, by simp only [Pg.size] at ps ⊢; omega⟩⟩
  | give a b =>
    simp only [Pg.enc] at fin
    ktr_call "q4" ⟨t_lawk54_2, Pg.enc, List.length_cons, List.length_nil⟩
    exact ⟨by show 2 ≤ sizeLine; decide, by show 3 ≤ sizeLine; decide, by decide, fin (.take (Str.ofString "z") k (.give a b)) ⟨⟨zok, kg, pl⟩, by simp only [Pg.deep] at pd ⊢; omega, by simp only [Pg.size] at ps ⊢; omega⟩⟩
  | pair a b =>
    simp only [Pg.enc] at fin
    ktr_call "q4" ⟨t_lawk54_2, Pg.enc, List.length_cons, List.length_nil⟩
    exact ⟨by show 2 ≤ sizeLine; decide, by show 3 ≤ sizeLine; decide, by decide, fin (.take (Str.ofString "z") k (.pair a b)) ⟨⟨zok, kg, pl⟩, by simp only [Pg.deep] at pd ⊢; omega, by simp only [Pg.size] at ps ⊢; omega⟩⟩
  | first a =>
    simp only [Pg.enc] at fin
    ktr_call "q4" ⟨t_lawk54_2, Pg.enc, List.length_cons, List.length_nil⟩
    exact ⟨by show 2 ≤ sizeLine; decide, by show 2 ≤ sizeLine; decide, by decide, fin (.take (Str.ofString "z") k (.first a)) ⟨⟨zok, kg, pl⟩, by simp only [Pg.deep] at pd ⊢; omega, by simp only [Pg.size] at ps ⊢; omega⟩⟩
  | second a =>
    simp only [Pg.enc] at fin
    ktr_call "q4" ⟨t_lawk54_2, Pg.enc, List.length_cons, List.length_nil⟩
    exact ⟨by show 2 ≤ sizeLine; decide, by show 2 ≤ sizeLine; decide, by decide, fin (.take (Str.ofString "z") k (.second a)) ⟨⟨zok, kg, pl⟩, by simp only [Pg.deep] at pd ⊢; omega, by simp only [Pg.size] at ps ⊢; omega⟩⟩
  | thing =>
    simp only [Pg.enc] at fin
    ktr_call "q4" ⟨t_lawk54_2, Pg.enc, List.length_cons, List.length_nil⟩
    exact ⟨by show 2 ≤ sizeLine; decide, by show 2 ≤ sizeLine; decide, by decide, fin (.take (Str.ofString "z") k .thing) ⟨⟨zok, kg, pl⟩, by simp only [Pg.deep] at pd ⊢; omega, by simp only [Pg.size] at ps ⊢; omega⟩⟩
end
theorem r_lawk54 {ss cs Kp} (h : pLaw ss cs Kp) : t_lawk54 pPool pRw (pKind 4) pTake (pLgd 20) (pLiG ab 150) (pSpe ab 100) (pTld ab) pSz (dV cs.length Kp) ⟨startV 10 ss, cs.map some⟩ := by
  obtain ⟨ns, rfl, rfl, hl, kf⟩ := h
  ktr_call "q4" ⟨t_lawk54, t_lawk54_25⟩
  generalize hN : (if (if (8 : Int) < (ns.length : Nat) then (8 : Int) else (ns.length : Nat)) > 1 then (if (8 : Int) < (ns.length : Nat) then (8 : Int) else (ns.length : Nat)) else 1) = N
  have hN1 : 0 ≤ N ∧ N ≤ 8 := by
    rw [← hN]
    split <;> split <;> omega
  refine ⟨by omega, by omega, ?_⟩
  rw [rng_eq]
  refine fl_invW (chk := none) (fun (i : Nat) => PyData.int (0 + (i : Nat))) _ (fun ys e => e = ⟨[some (.kn (ns.map .int)), none, none, none, none, none, none, none, none, none], []⟩) (fun _ _ _ => trivial) ?_ ?_ rfl
  · rintro ys i zs e Nx hys rfl hk
    have hi : i < N.toNat := List.mem_range.mp (by rw [hys]; simp)
    ktr_call "q4" ⟨t_lawk54_23⟩
    refine ⟨ns, i, by rw [Int.zero_add], rfl, hl, by omega, fun c n pn => ?_⟩
    ktr_call "q4" ⟨t_lawk54_22⟩
    refine ⟨c, n, rfl, rfl, pn, fun r c1 n1 rl pn1 => ?_⟩
    ktr_call "q4" ⟨t_lawk54_21, pTake, pKind⟩
    refine ⟨pn1, fun l c2 n2 l0 l1 pn2 => ?_⟩
    refine ⟨pn2, by omega, by omega, by omega, ab, rfl, by decide, by decide, fun k c3 n3 lk ov pn3 => ?_⟩
    have ko : k.ok4 := ⟨ov, by omega⟩
    have kd : ((kwn r []).map encB) = r.map encB := by simp [kwn, tkn]
    ktr_call "q4" ⟨t_lawk54_20, pTake⟩
    refine ⟨pn3, fun m c4 n4 m0 m1 pn4 => ?_⟩
    obtain ⟨room, hroom⟩ : ∃ room : Nat, (1 : Int) + m = (room : Nat) := ⟨(1 + m).toNat, by omega⟩
    rw [hroom]
    refine ⟨r, [], k, room, c4, n4, by rw [kd]; rfl, rfl, pn4, rl, fun a ha => (by cases ha), ko, by have := ko.2; omega, by decide, fun p ms c5 n5 hg hs hd pn5 => ?_⟩
    have hs2 : p.size ≤ 20000 := by
      have h1 : k.leaves * Bqz room ≤ 4 * Bqz room := Nat.mul_le_mul_right _ ko.2
      have h2 : Bqz room ≤ 785 := by
        have : room = 1 ∨ room = 2 := by omega
        rcases this with rfl | rfl <;> decide
      omega
    have hd2 : p.deep ≤ 40 := by have := ko.2; omega
    have kg := ok4_g ko
    have pl : p.lk ab := (Lg.lks (fun x hx => (rl.ok x hx).1) hg (knM rl).kd).2 rfl kg
    ktr_call "q4" ⟨t_lawk54_19, pTake⟩
    refine ⟨pn5, fun l2 c6 n6 l20 l21 pn6 => ?_⟩
    split
    · exact law54v rl ko pl hd2 hs2 pn6 hk
    · ktr_call "q4" ⟨t_lawk54_6, pTake⟩
      refine ⟨pn6, fun l3 c7 n7 l30 l31 pn7 => ?_⟩
      split
      · have hne : r ≠ [] := fun e => by have := rl.p; rw [e] at this; cases this
        obtain ⟨x, hx⟩ : ∃ x, r.getLast? = some x := by
          cases h : r.getLast? with
          | none => exact absurd (List.getLast?_eq_none_iff.mp h) hne
          | some x => exact ⟨x, rfl⟩
        have hxr : x ∈ r := List.mem_of_getLast? hx
        ktr_call "q4" ⟨t_lawk54_5, vPar, opNeg⟩
        have ea : atI (r.map encB) (-1) = some (encB x) := by
          rw [atI_last, List.getLast?_map, hx]
          rfl
        rw [ea]
        ktr_call "q4" ⟨kOpt_some, encB⟩
        exact law54t (p := .name x.1) rl (ok4_g (rl.ok x hxr).2) (rl.ok x hxr).1 (by simp only [Pg.deep]; omega) (by simp only [Pg.size]; omega) hk
      · rw [vNext_mk]
        exact law54t rl kg pl (by omega) (by omega) hk
  · rintro e rfl
    ktr_call "q4" ⟨t_lawk54_24⟩
    exact kf
set_option maxHeartbeats 800000
def top (i : Nat) : Stmt := PySem.Challenge.pw_kindfill_k54_spellings.main.body.getD i (.Pass ⟨0, 0, 0, 0⟩)
abbrev sismark : Stmt := top 7
abbrev nismark : List Str := ["text"]
theorem scismark : FnScope nismark ["text"] (defScope sismark) := ⟨rfl, rfl, rfl, by decide +kernel, rfl, by decide +kernel, by decide +kernel⟩
theorem bd_ismark {P : Program} {w : World} {K : PySem.W.Frag} {mg : Str → Option Value} {base : Heap} {k : Nat} (h_1 : 1 ≤ k) (c_LETTERS : VConst K mg "LETTERS" (.str "abcdefghijklmnopqrstuvwxyz")) (c_LONGEST : VConst K mg "LONGEST" (.int 6)) (B : Blt mg) {f : Addr} {cG PG : Addr} (TB : GxR.TabB base mg cG PG) (tk : TbK K PG) {A : Around} {outer : List Env} {s : Shared} {H : Hp} {E : XK}
    (hr : Room k (A.deeper (envOfC "is_mark" (defScope sismark) s.heap.objs.size f (.ref cG)))) : VSs (cxOf CX0 P w K mg base nismark "is_mark" (defScope sismark) f (.ref cG) A outer s H E).nox (defBody sismark) (t_ismark) := by
  have h : VSs (cxOf CX0 P w K mg base nismark "is_mark" (defScope sismark) f (.ref cG) A outer s H E).nox (defBody sismark) (vSeq (vIfS (vOrT (vNotT (vTest (vIsi "str" (vVar 0)))) (vNotT (vTest (vChain opLe opLe (vC (.int 1)) (vN opLen (vCons (vVar 0) vNil)) (vC (.int 6)))))) ((vRet (vC (.bool false)))) vNext) ((vRet (vAG true (vStrI (vVar 0)) [none] [0] (vgName 0) (v2 (opInS false) (vVar 0) (vC (.str "abcdefghijklmnopqrstuvwxyz"))))))) := (vss_cons (vs_if (VW.vt (vw_or (vt_not (vt_val (ve_isi (T := "str") (by decide) rfl B.isinstance rfl B.str (by decide +kernel) (vp 0)))) (vw_or1 (vt_not (vt_chain (p_i0 (g := gLe) fun _ _ _ => .bl _) (p_i0 (g := gLe) fun _ _ _ => .bl _) op_le op_le ve_int (ve_len rfl B.len (va_cons (vp 0) va_nil)) (ve_const c_LONGEST rfl)))))) (vss_one (vs_ret ve_bl)) vss_nil)
    (vss_one (vs_ret (ve_allG (N := ["sign"]) (caps := [none]) (vs := [0]) hr h_1 rfl B.all TB tk rfl (gsc_by (sn := (defScope sismark).names) rfl rfl rfl rfl (by decide +kernel)) (caps_by (XN := nismark) rfl (by decide +kernel)) (vi_str (vp 0)) (fun _ _ _ _ _ _ hr => have hu := u190 hr; (vg_name (i := 0) (GNd.mk (N := ["sign"]) (by decide)).nd rfl (Or.inl rfl))) (fun _ _ _ _ _ _ hr => have hu := u190 hr; (ve_inS (vp 0) (ve_const c_LETTERS rfl)))))))
  exact h
theorem ok_ismark {P : Program} {w : World} {K : PySem.W.Frag} {mg : Str → Option Value} {base : Heap} {k : Nat} {p : VSp} {cG PG : Addr} (Fd : DfC K mg base "is_mark" sismark ["text"] cG PG) (h_1 : 1 ≤ k) (c_LETTERS : VConst K mg "LETTERS" (.str "abcdefghijklmnopqrstuvwxyz")) (c_LONGEST : VConst K mg "LONGEST" (.int 6)) (B : Blt mg)
    (len : ∀ ss st Kp, p ss st Kp → ss.length = 1) (rd : ∀ ss cs Kp, p ss cs Kp → t_ismark (dV cs.length Kp) ⟨startV 1 ss, cs.map some⟩) : VFn P w K mg base (k + 1) "is_mark" ["text"] p :=
  okFC Fd scismark len (fun hr => bd_ismark h_1 c_LETTERS c_LONGEST B Fd.TB Fd.tk hr) rd
abbrev skindsin : Stmt := top 12
abbrev nkindsin : List Str := ["kind"]
theorem sckindsin : FnScope nkindsin ["kind"] (defScope skindsin) := ⟨rfl, rfl, rfl, by decide +kernel, rfl, by decide +kernel, by decide +kernel⟩
theorem bd_kindsin {P : Program} {w : World} {K : PySem.W.Frag} {mg : Str → Option Value} {base : Heap} {k : Nat} (B : Blt mg) {f : Addr} {cdv : Value} {A : Around} {outer : List Env} {s : Shared} {H : Hp} {E : XK}
    (hr : Room k (A.deeper (envOfC "kinds_in" (defScope skindsin) s.heap.objs.size f cdv))) : VSs (cxOf CX0 P w K mg base nkindsin "kinds_in" (defScope skindsin) f cdv A outer s H E).nox (defBody skindsin) (t_kindsin) := by
  have hu := u190 hr
  have h : VSs (cxOf CX0 P w K mg base nkindsin "kinds_in" (defScope skindsin) f cdv A outer s H E).nox (defBody skindsin) (vSeq (vIfS (vTest (v2 (xEq false) (v2 xIx (vVar 0) (vC (.int 0))) (vC (.str "mark")))) ((vRet (vN opLst vNil))) vNext) ((vRet (vN opList (vCons (vSl opSl (vVar 0) (vPart (vC (.int 1))) vNoPart) vNil))))) := (vss_cons (vs_if (vt_xeq hu (ve_xix (vp 0) ve_int) ve_str) (vss_one (vs_ret (ve_lst va_nil))) vss_nil)
    (vss_one (vs_ret (ve_list rfl B.list (va_cons (ve_slice (vp 0) (vo_some ve_int) vo_none) va_nil)))))
  exact h
theorem ok_kindsin {P : Program} {w : World} {K : PySem.W.Frag} {mg : Str → Option Value} {base : Heap} {k : Nat} {p : VSp} (Fd : Df K mg "kinds_in" skindsin ["kind"]) (B : Blt mg)
    (len : ∀ ss st Kp, p ss st Kp → ss.length = 1) (rd : ∀ ss cs Kp, p ss cs Kp → t_kindsin (dV cs.length Kp) ⟨startV 1 ss, cs.map some⟩) : VFn P w K mg base (k + 1) "kinds_in" ["kind"] p :=
  okF Fd sckindsin len (fun hr => bd_kindsin B hr) rd
abbrev shasformv2 : Stmt := top 13
abbrev nhasformv2 : List Str := ["thing", "word"]
theorem schasformv2 : FnScope nhasformv2 ["thing"] (defScope shasformv2) := ⟨rfl, rfl, rfl, by decide +kernel, rfl, by decide +kernel, by decide +kernel⟩
theorem bd_hasformv2 {P : Program} {w : World} {K : PySem.W.Frag} {mg : Str → Option Value} {base : Heap} {k : Nat} {k_ismark : Nat} {p_ismark : VSp} (G_ismark : VFn P w K mg base k_ismark "is_mark" ["text"] p_ismark) (h_ismark : k_ismark ≤ k) (KD_LENGTHS_kinds : CDict K w mg "LENGTHS_kinds" (tabI [("mark", 2), ("one", 1), ("to", 3), ("both", 3)])) (B : Blt mg) {f : Addr} {cdv : Value} {A : Around} {outer : List Env} {s : Shared} {H : Hp} {E : XK}
    (hr : Room k (A.deeper (envOfC "has_form" (defScope shasformv2) s.heap.objs.size f cdv))) : VSs (cxOf CX0 P w K mg base nhasformv2 "has_form" (defScope shasformv2) f cdv A outer s H E).nox (defBody shasformv2) (t_hasformv2 p_ismark) := by
  have hu := u190 hr
  have h : VSs (cxOf CX0 P w K mg base nhasformv2 "has_form" (defScope shasformv2) f cdv A outer s H E).nox (defBody shasformv2) (vSeq (vIfS (vOrT (vNotT (vTest (vIsi "tuple" (vVar 0)))) (vTest (v2 (xEq false) (vN opLen (vCons (vVar 0) vNil)) (vC (.int 0))))) ((vRet (vC (.bool false)))) vNext) (vSeq (vSet 1 (v2 xIx (vVar 0) (vC (.int 0)))) (vSeq (vIfS (vOrT (vNotT (vTest (vIsi "str" (vVar 1)))) (vTest (v2 (xEq true) (vKGet (tabI [("mark", 2), ("one", 1), ("to", 3), ("both", 3)]) (vVar 1)) (vN opLen (vCons (vVar 0) vNil))))) ((vRet (vC (.bool false)))) vNext) ((vRet (vOrV (v2 (xEq true) (vVar 1) (vC (.str "mark"))) (vN (opCallK ownD p_ismark) (vCons (v2 xIx (vVar 0) (vC (.int 1))) vNil)))))))) := (vss_cons (vs_if (VW.vt (vw_or (vt_not (vt_val (ve_isi (T := "tuple") (by decide) rfl B.isinstance rfl B.tuple (by decide +kernel) (vp 0)))) (vw_or1 (vt_xeq hu (ve_len rfl B.len (va_cons (vp 0) va_nil)) ve_int)))) (vss_one (vs_ret ve_bl)) vss_nil)
    (vss_cons (vs_set (i := 1) schasformv2.nd rfl (Or.inl rfl) (ve_xix (vp 0) ve_int))
    (vss_cons (vs_if (VW.vt (vw_or (vt_not (vt_val (ve_isi (T := "str") (by decide) rfl B.isinstance rfl B.str (by decide +kernel) (vp 1)))) (vw_or1 (vt_xne hu (ve_kget KD_LENGTHS_kinds rfl (vp 1)) (ve_len rfl B.len (va_cons (vp 0) va_nil)))))) (vss_one (vs_ret ve_bl)) vss_nil)
    (vss_one (vs_ret (ve_or (ve_xne hu (vp 1) ve_str) (ve_one (ve_call finW_D G_ismark hr h_ismark rfl (va_cons (ve_xix (vp 0) ve_int) va_nil)))))))))
  exact h
theorem ok_hasformv2 {P : Program} {w : World} {K : PySem.W.Frag} {mg : Str → Option Value} {base : Heap} {k : Nat} {p : VSp} (Fd : Df K mg "has_form" shasformv2 ["thing"]) {k_ismark : Nat} {p_ismark : VSp} (G_ismark : VFn P w K mg base k_ismark "is_mark" ["text"] p_ismark) (h_ismark : k_ismark ≤ k) (KD_LENGTHS_kinds : CDict K w mg "LENGTHS_kinds" (tabI [("mark", 2), ("one", 1), ("to", 3), ("both", 3)])) (B : Blt mg)
    (len : ∀ ss st Kp, p ss st Kp → ss.length = 1) (rd : ∀ ss cs Kp, p ss cs Kp → t_hasformv2 p_ismark (dV cs.length Kp) ⟨startV 2 ss, cs.map some⟩) : VFn P w K mg base (k + 1) "has_form" ["thing"] p :=
  okF Fd schasformv2 len (fun hr => bd_hasformv2 G_ismark h_ismark KD_LENGTHS_kinds B hr) rd
abbrev siskind : Stmt := top 14
abbrev niskind : List Str := ["thing", "leaves", "todo", "part", "depth", "inner", "kind"]
theorem sciskind : FnScope niskind ["thing"] (defScope siskind) := ⟨rfl, rfl, rfl, by decide +kernel, rfl, by decide +kernel, by decide +kernel⟩
theorem bd_iskind {P : Program} {w : World} {K : PySem.W.Frag} {mg : Str → Option Value} {base : Heap} {k : Nat} {k_hasformv2 : Nat} {p_hasformv2 : VSp} (G_hasformv2 : VFn P w K mg base k_hasformv2 "has_form" ["thing"] p_hasformv2) (h_hasformv2 : k_hasformv2 ≤ k) {k_kindsin : Nat} {p_kindsin : VSp} (G_kindsin : VFn P w K mg base k_kindsin "kinds_in" ["kind"] p_kindsin) (h_kindsin : k_kindsin ≤ k) (c_DEEPEST : VConst K mg "DEEPEST" (.int 12)) (c_MOST_LEAVES : VConst K mg "MOST_LEAVES" (.int 24)) {f : Addr} {cdv : Value} {A : Around} {outer : List Env} {s : Shared} {H : Hp} {E : XK}
    (hr : Room k (A.deeper (envOfC "is_kind" (defScope siskind) s.heap.objs.size f cdv))) : VSs (cxOf CX0 P w K mg base niskind "is_kind" (defScope siskind) f cdv A outer s H E).nox (defBody siskind) (t_iskind p_hasformv2 p_kindsin) := by
  have h : VSs (cxOf CX0 P w K mg base niskind "is_kind" (defScope siskind) f cdv A outer s H E).nox (defBody siskind) (vSeq (vSet 1 (vC (.int 0))) (vSeq (vSet 2 (vN opLstO (vCons (vN opTup (vCons (vVar 0) (vCons (vC (.int 0)) vNil))) vNil))) (vSeq (vWhileW (vTruth (vVar 2))
      (vSeq (vAsg (vM0 "list" xPop (vVar 2)) (vgTup 2 (vgCons (vgName 3) (vgCons (vgName 4) vgNil)))) (vSeq (vIfS (vOrT (vTest (v2 opGt (vVar 4) (vC (.int 12)))) (vNotT (vTruth (vN (opCallK ownD p_hasformv2) (vCons (vVar 3) vNil))))) ((vRet (vC (.bool false)))) vNext) (vSeq (vSet 5 (vN (opCallK ownD p_kindsin) (vCons (vVar 3) vNil))) (vSeq (vIfS (vNotT (vTruth (vVar 5))) ((vAug (fun a b => a + b) 1 (vC (.int 1)))) vNext) (vSeq (vIfS (vTest (v2 opGt (vVar 1) (vC (.int 24)))) ((vRet (vC (.bool false)))) vNext) ((vForW (vSeqI (vVar 5)) (vgName 6)
        ((vDrop (vM "list" opAppend (vVar 2) (vCons (vN opTup (vCons (vVar 6) (vCons (v2 opAdd (vVar 4) (vC (.int 1))) vNil))) vNil)))))))))))) ((vRet (vC (.bool true))))))) := (vss_cons (vs_set (i := 1) sciskind.nd rfl (Or.inl rfl) ve_int)
    (vss_cons (vs_set (i := 2) sciskind.nd rfl (Or.inl rfl) (ve_lstO (va_cons (ve_tup (va_cons (vp 0) (va_cons ve_int va_nil))) va_nil)))
    (vss_cons (vs_whileW PassesOwn.never (vt_truth (vp 2))
      (vss_cons (vs_asg (ve_xpop (vp 2)) (vg_tup rfl (vgs_cons (vg_name (i := 3) sciskind.nd rfl (Or.inl rfl)) (vgs_cons (vg_name (i := 4) sciskind.nd rfl (Or.inl rfl)) vgs_nil))))
      (vss_cons (vs_if (VW.vt (vw_or (vt_gt (vp 4) (ve_const c_DEEPEST rfl)) (vw_or1 (vt_not (vt_truth (ve_call finW_D G_hasformv2 hr h_hasformv2 rfl (va_cons (vp 3) va_nil))))))) (vss_one (vs_ret ve_bl)) vss_nil)
      (vss_cons (vs_set (i := 5) sciskind.nd rfl (Or.inl rfl) (ve_call finW_D G_kindsin hr h_kindsin rfl (va_cons (vp 3) va_nil)))
      (vss_cons (vs_if (vt_not (vt_truth (vp 5))) (vss_one (vs_aug (i := 1) (g := fun a b => a + b) sciskind.nd rfl (Or.inl rfl) ve_int ip_add (fun h => ps_aug sciskind.nd rfl (Or.inl rfl) h ip_add))) vss_nil)
      (vss_cons (vs_if (vt_gt (vp 1) (ve_const c_MOST_LEAVES rfl)) (vss_one (vs_ret ve_bl)) vss_nil)
      (vss_one (vs_forW (vi_list (vp 5)) (vg_name (i := 6) sciskind.nd rfl (Or.inl rfl))
        (vss_one (vs_expr (ve_append (vp 2) (va_cons (ve_tup (va_cons (vp 6) (va_cons (ve_add (vp 4) ve_int) va_nil))) va_nil)))) (fun a b c => ps_for PassesOwn.never rfl a b c)))))))))
    (vss_one (vs_ret ve_bl)))))
  exact h
theorem ok_iskind {P : Program} {w : World} {K : PySem.W.Frag} {mg : Str → Option Value} {base : Heap} {k : Nat} {p : VSp} (Fd : Df K mg "is_kind" siskind ["thing"]) {k_hasformv2 : Nat} {p_hasformv2 : VSp} (G_hasformv2 : VFn P w K mg base k_hasformv2 "has_form" ["thing"] p_hasformv2) (h_hasformv2 : k_hasformv2 ≤ k) {k_kindsin : Nat} {p_kindsin : VSp} (G_kindsin : VFn P w K mg base k_kindsin "kinds_in" ["kind"] p_kindsin) (h_kindsin : k_kindsin ≤ k) (c_DEEPEST : VConst K mg "DEEPEST" (.int 12)) (c_MOST_LEAVES : VConst K mg "MOST_LEAVES" (.int 24))
    (len : ∀ ss st Kp, p ss st Kp → ss.length = 1) (rd : ∀ ss cs Kp, p ss cs Kp → t_iskind p_hasformv2 p_kindsin (dV cs.length Kp) ⟨startV 7 ss, cs.map some⟩) : VFn P w K mg base (k + 1) "is_kind" ["thing"] p :=
  okF Fd sciskind len (fun hr => bd_iskind G_hasformv2 h_hasformv2 G_kindsin h_kindsin c_DEEPEST c_MOST_LEAVES hr) rd
abbrev swaysof : Stmt := top 16
abbrev nwaysof : List Str := ["kind", "ways", "todo", "part", "moves"]
theorem scwaysof : FnScope nwaysof ["kind"] (defScope swaysof) := ⟨rfl, rfl, rfl, by decide +kernel, rfl, by decide +kernel, by decide +kernel⟩
theorem bd_waysof {P : Program} {w : World} {K : PySem.W.Frag} {mg : Str → Option Value} {base : Heap} {k : Nat} {f : Addr} {cdv : Value} {A : Around} {outer : List Env} {s : Shared} {H : Hp} {E : XK}
    (hr : Room k (A.deeper (envOfC "ways_of" (defScope swaysof) s.heap.objs.size f cdv))) : VSs (cxOf CX0 P w K mg base nwaysof "ways_of" (defScope swaysof) f cdv A outer s H E).nox (defBody swaysof) (t_waysof) := by
  have hu := u190 hr
  have h : VSs (cxOf CX0 P w K mg base nwaysof "ways_of" (defScope swaysof) f cdv A outer s H E).nox (defBody swaysof) (vSeq (vSet 1 (vN opLstO vNil)) (vSeq (vSet 2 (vN opLstO (vCons (vN opTup (vCons (vVar 0) (vCons (vN opLst vNil) vNil))) vNil))) (vSeq (vWhileW (vTruth (vVar 2))
      (vSeq (vAsg (vM0 "list" xPop (vVar 2)) (vgTup 2 (vgCons (vgName 3) (vgCons (vgName 4) vgNil)))) ((vIfS (vTest (v2 (xEq false) (v2 xIx (vVar 3) (vC (.int 0))) (vC (.str "mark")))) ((vDrop (vM "list" opAppend (vVar 1) (vCons (vN opTup (vCons (vVar 4) (vCons (v2 xIx (vVar 3) (vC (.int 1))) vNil))) vNil)))) ((vIfS (vTest (v2 (xEq false) (v2 xIx (vVar 3) (vC (.int 0))) (vC (.str "to")))) ((vDrop (vM "list" opAppend (vVar 2) (vCons (vN opTup (vCons (v2 xIx (vVar 3) (vC (.int 2))) (vCons (v2 opAdd (vVar 4) (vN opLst (vCons (v2 xIx (vVar 3) (vC (.int 1))) vNil))) vNil))) vNil)))) ((vIfS (vTest (v2 (xEq false) (v2 xIx (vVar 3) (vC (.int 0))) (vC (.str "both")))) (vSeq (vDrop (vM "list" opAppend (vVar 2) (vCons (vN opTup (vCons (v2 xIx (vVar 3) (vC (.int 2))) (vCons (v2 opAdd (vVar 4) (vN opLst (vCons (vC (.int 2)) vNil))) vNil))) vNil))) ((vDrop (vM "list" opAppend (vVar 2) (vCons (vN opTup (vCons (v2 xIx (vVar 3) (vC (.int 1))) (vCons (v2 opAdd (vVar 4) (vN opLst (vCons (vC (.int 1)) vNil))) vNil))) vNil))))) vNext)))))))) ((vRet (vVar 1)))))) := (vss_cons (vs_set (i := 1) scwaysof.nd rfl (Or.inl rfl) (ve_lstO va_nil))
    (vss_cons (vs_set (i := 2) scwaysof.nd rfl (Or.inl rfl) (ve_lstO (va_cons (ve_tup (va_cons (vp 0) (va_cons (ve_lst va_nil) va_nil))) va_nil)))
    (vss_cons (vs_whileW PassesOwn.never (vt_truth (vp 2))
      (vss_cons (vs_asg (ve_xpop (vp 2)) (vg_tup rfl (vgs_cons (vg_name (i := 3) scwaysof.nd rfl (Or.inl rfl)) (vgs_cons (vg_name (i := 4) scwaysof.nd rfl (Or.inl rfl)) vgs_nil))))
      (vss_one (vs_if (vt_xeq hu (ve_xix (vp 3) ve_int) ve_str) (vss_one (vs_expr (ve_append (vp 1) (va_cons (ve_tup (va_cons (vp 4) (va_cons (ve_xix (vp 3) ve_int) va_nil))) va_nil)))) (vss_one (vs_if (vt_xeq hu (ve_xix (vp 3) ve_int) ve_str) (vss_one (vs_expr (ve_append (vp 2) (va_cons (ve_tup (va_cons (ve_xix (vp 3) ve_int) (va_cons (ve_add (vp 4) (ve_lst (va_cons (ve_xix (vp 3) ve_int) va_nil))) va_nil))) va_nil)))) (vss_one (vs_if (vt_xeq hu (ve_xix (vp 3) ve_int) ve_str) (vss_cons (vs_expr (ve_append (vp 2) (va_cons (ve_tup (va_cons (ve_xix (vp 3) ve_int) (va_cons (ve_add (vp 4) (ve_lst (va_cons ve_int va_nil))) va_nil))) va_nil)))
            (vss_one (vs_expr (ve_append (vp 2) (va_cons (ve_tup (va_cons (ve_xix (vp 3) ve_int) (va_cons (ve_add (vp 4) (ve_lst (va_cons ve_int va_nil))) va_nil))) va_nil))))) vss_nil))))))))
    (vss_one (vs_ret (vp 1))))))
  exact h
theorem ok_waysof {P : Program} {w : World} {K : PySem.W.Frag} {mg : Str → Option Value} {base : Heap} {k : Nat} {p : VSp} (Fd : Df K mg "ways_of" swaysof ["kind"])
    (len : ∀ ss st Kp, p ss st Kp → ss.length = 1) (rd : ∀ ss cs Kp, p ss cs Kp → t_waysof (dV cs.length Kp) ⟨startV 5 ss, cs.map some⟩) : VFn P w K mg base (k + 1) "ways_of" ["kind"] p :=
  okF Fd scwaysof len (fun hr => bd_waysof hr) rd
abbrev sprogramsin : Stmt := top 19
abbrev nprogramsin : List Str := ["part"]
theorem scprogramsin : FnScope nprogramsin ["part"] (defScope sprogramsin) := ⟨rfl, rfl, rfl, by decide +kernel, rfl, by decide +kernel, by decide +kernel⟩
theorem bd_programsin {P : Program} {w : World} {K : PySem.W.Frag} {mg : Str → Option Value} {base : Heap} {k : Nat} (B : Blt mg) {f : Addr} {cdv : Value} {A : Around} {outer : List Env} {s : Shared} {H : Hp} {E : XK}
    (hr : Room k (A.deeper (envOfC "programs_in" (defScope sprogramsin) s.heap.objs.size f cdv))) : VSs (cxOf CX0 P w K mg base nprogramsin "programs_in" (defScope sprogramsin) f cdv A outer s H E).nox (defBody sprogramsin) (t_programsin) := by
  have hu := u190 hr
  have h : VSs (cxOf CX0 P w K mg base nprogramsin "programs_in" (defScope sprogramsin) f cdv A outer s H E).nox (defBody sprogramsin) (vSeq (vIfS (vTest (v2 (xIn false) (v2 xIx (vVar 0) (vC (.int 0))) (vN opTup (vCons (vC (.str "name")) (vCons (vC (.str "gap")) vNil))))) ((vRet (vN opLst vNil))) vNext) (vSeq (vIfS (vTest (v2 (xEq false) (v2 xIx (vVar 0) (vC (.int 0))) (vC (.str "take")))) ((vRet (vN opLst (vCons (v2 xIx (vVar 0) (vC (.int 3))) vNil)))) vNext) ((vRet (vN opList (vCons (vSl opSl (vVar 0) (vPart (vC (.int 1))) vNoPart) vNil)))))) := (vss_cons (vs_if (vt_xin hu (ve_xix (vp 0) ve_int) (ve_tup (va_cons ve_str (va_cons ve_str va_nil)))) (vss_one (vs_ret (ve_lst va_nil))) vss_nil)
    (vss_cons (vs_if (vt_xeq hu (ve_xix (vp 0) ve_int) ve_str) (vss_one (vs_ret (ve_lst (va_cons (ve_xix (vp 0) ve_int) va_nil)))) vss_nil)
    (vss_one (vs_ret (ve_list rfl B.list (va_cons (ve_slice (vp 0) (vo_some ve_int) vo_none) va_nil))))))
  exact h
theorem ok_programsin {P : Program} {w : World} {K : PySem.W.Frag} {mg : Str → Option Value} {base : Heap} {k : Nat} {p : VSp} (Fd : Df K mg "programs_in" sprogramsin ["part"]) (B : Blt mg)
    (len : ∀ ss st Kp, p ss st Kp → ss.length = 1) (rd : ∀ ss cs Kp, p ss cs Kp → t_programsin (dV cs.length Kp) ⟨startV 1 ss, cs.map some⟩) : VFn P w K mg base (k + 1) "programs_in" ["part"] p :=
  okF Fd scprogramsin len (fun hr => bd_programsin B hr) rd
abbrev shasword : Stmt := top 23
abbrev nhasword : List Str := ["part", "word"]
theorem schasword : FnScope nhasword ["part", "word"] (defScope shasword) := ⟨rfl, rfl, rfl, by decide +kernel, rfl, by decide +kernel, by decide +kernel⟩
theorem bd_hasword {P : Program} {w : World} {K : PySem.W.Frag} {mg : Str → Option Value} {base : Heap} {k : Nat} (KT_LENGTHS_programs : CDt K w mg "LENGTHS_programs" (fun z => ([("name", .int 2), ("take", .int 4), ("give", .int 3), ("pair", .int 3), ("first", .int 2), ("second", .int 2), ("thing", .int 1)] : List (Str × D)).lookup z)) (B : Blt mg) {f : Addr} {cdv : Value} {A : Around} {outer : List Env} {s : Shared} {H : Hp} {E : XK}
    (hr : Room k (A.deeper (envOfC "has_word" (defScope shasword) s.heap.objs.size f cdv))) : VSs (cxOf CX0 P w K mg base nhasword "has_word" (defScope shasword) f cdv A outer s H E).nox (defBody shasword) (t_hasword) := by
  have hu := u190 hr
  have h : VSs (cxOf CX0 P w K mg base nhasword "has_word" (defScope shasword) f cdv A outer s H E).nox (defBody shasword) (vSeq (vIfS (vOrT (vNotT (vTest (vIsi "tuple" (vVar 0)))) (vTest (v2 (xEq true) (vN opLen (vCons (vVar 0) vNil)) (vKIx (fun z => ([("name", .int 2), ("take", .int 4), ("give", .int 3), ("pair", .int 3), ("first", .int 2), ("second", .int 2), ("thing", .int 1)] : List (Str × D)).lookup z) (vVar 1))))) ((vRet (vC (.bool false)))) vNext) ((vRet (vAndV (vIsi "str" (v2 xIx (vVar 0) (vC (.int 0)))) (v2 (xEq false) (v2 xIx (vVar 0) (vC (.int 0))) (vVar 1)))))) := (vss_cons (vs_if (VW.vt (vw_or (vt_not (vt_val (ve_isi (T := "tuple") (by decide) rfl B.isinstance rfl B.tuple (by decide +kernel) (vp 0)))) (vw_or1 (vt_xne hu (ve_len rfl B.len (va_cons (vp 0) va_nil)) (ve_kix KT_LENGTHS_programs rfl (vp 1)))))) (vss_one (vs_ret ve_bl)) vss_nil)
    (vss_one (vs_ret (ve_and (ve_isi (T := "str") (by decide) rfl B.isinstance rfl B.str (by decide +kernel) (ve_xix (vp 0) ve_int)) (ve_one (ve_xeq hu (ve_xix (vp 0) ve_int) (vp 1)))))))
  exact h
theorem ok_hasword {P : Program} {w : World} {K : PySem.W.Frag} {mg : Str → Option Value} {base : Heap} {k : Nat} {p : VSp} (Fd : Df K mg "has_word" shasword ["part", "word"]) (KT_LENGTHS_programs : CDt K w mg "LENGTHS_programs" (fun z => ([("name", .int 2), ("take", .int 4), ("give", .int 3), ("pair", .int 3), ("first", .int 2), ("second", .int 2), ("thing", .int 1)] : List (Str × D)).lookup z)) (B : Blt mg)
    (len : ∀ ss st Kp, p ss st Kp → ss.length = 2) (rd : ∀ ss cs Kp, p ss cs Kp → t_hasword (dV cs.length Kp) ⟨startV 2 ss, cs.map some⟩) : VFn P w K mg base (k + 1) "has_word" ["part", "word"] p :=
  okF Fd schasword len (fun hr => bd_hasword KT_LENGTHS_programs B hr) rd
abbrev sreadframe : Stmt := top 24
abbrev nreadframe : List Str := ["part", "kind", "scope", "given"]
theorem screadframe : FnScope nreadframe ["part", "kind", "scope", "given"] (defScope sreadframe) := ⟨rfl, rfl, rfl, by decide +kernel, rfl, by decide +kernel, by decide +kernel⟩
theorem bd_readframe {P : Program} {w : World} {K : PySem.W.Frag} {mg : Str → Option Value} {base : Heap} {k : Nat} {k_hasword : Nat} {p_hasword : VSp} (G_hasword : VFn P w K mg base k_hasword "has_word" ["part", "word"] p_hasword) (h_hasword : k_hasword ≤ k) {k_iskind : Nat} {p_iskind : VSp} (G_iskind : VFn P w K mg base k_iskind "is_kind" ["thing"] p_iskind) (h_iskind : k_iskind ≤ k) (B : Blt mg) {f : Addr} {cdv : Value} {A : Around} {outer : List Env} {s : Shared} {H : Hp} {E : XK}
    (hr : Room k (A.deeper (envOfC "read_frame" (defScope sreadframe) s.heap.objs.size f cdv))) : VSs (cxOf CX0 P w K mg base nreadframe "read_frame" (defScope sreadframe) f cdv A outer s H E).nox (defBody sreadframe) (t_readframe p_hasword p_iskind) := by
  have hu := u190 hr
  have h : VSs (cxOf CX0 P w K mg base nreadframe "read_frame" (defScope sreadframe) f cdv A outer s H E).nox (defBody sreadframe) (vSeq (vIfS (vTest (v2 (xEq false) (v2 xIx (vVar 1) (vC (.int 0))) (vC (.str "one")))) ((vRet (vIfE (vTruth (vN (opCallK ownD p_hasword) (vCons (vVar 0) (vCons (vC (.str "thing")) vNil)))) (vN opLst vNil) (vC .none)))) vNext) (vSeq (vIfS (vTest (v2 (xEq false) (v2 xIx (vVar 1) (vC (.int 0))) (vC (.str "both")))) (vSeq (vIfS (vNotT (vTruth (vN (opCallK ownD p_hasword) (vCons (vVar 0) (vCons (vC (.str "pair")) vNil))))) ((vRet (vC .none))) vNext) ((vRet (vN opLst (vCons (vN opTup (vCons (v2 xIx (vVar 1) (vC (.int 1))) (vCons (v2 xIx (vVar 0) (vC (.int 1))) (vCons (vVar 2) vNil)))) (vCons (vN opTup (vCons (v2 xIx (vVar 1) (vC (.int 2))) (vCons (v2 xIx (vVar 0) (vC (.int 2))) (vCons (vVar 2) vNil)))) vNil)))))) vNext) (vSeq (vIfS (vOrT (vNotT (vTruth (vN (opCallK ownD p_hasword) (vCons (vVar 0) (vCons (vC (.str "take")) vNil))))) (vOrT (vNotT (vTest (vIsi "str" (v2 xIx (vVar 0) (vC (.int 1)))))) (vNotT (vTruth (vN (opCallK ownD p_iskind) (vCons (v2 xIx (vVar 0) (vC (.int 2))) vNil)))))) ((vRet (vC .none))) vNext) (vSeq (vIfS (vOrT (vTest (v2 (xEq true) (v2 xIx (vVar 0) (vC (.int 1))) (vJoinC "x" (vFmt (v2 opSub (vN opLen (vCons (vVar 2) vNil)) (vVar 3)))))) (vTest (v2 (xEq true) (v2 xIx (vVar 0) (vC (.int 2))) (v2 xIx (vVar 1) (vC (.int 1)))))) ((vRet (vC .none))) vNext) ((vRet (vN opLst (vCons (vN opTup (vCons (v2 xIx (vVar 1) (vC (.int 2))) (vCons (v2 xIx (vVar 0) (vC (.int 3))) (vCons (v2 opAdd (vVar 2) (vN opTup (vCons (v2 xIx (vVar 1) (vC (.int 1))) vNil))) vNil)))) vNil)))))))) := (vss_cons (vs_if (vt_xeq hu (ve_xix (vp 1) ve_int) ve_str) (vss_one (vs_ret (ve_ifExp (vt_truth (ve_call finW_D G_hasword hr h_hasword rfl (va_cons (vp 0) (va_cons ve_str va_nil)))) (ve_lst va_nil) ve_non))) vss_nil)
    (vss_cons (vs_if (vt_xeq hu (ve_xix (vp 1) ve_int) ve_str) (vss_cons (vs_if (vt_not (vt_truth (ve_call finW_D G_hasword hr h_hasword rfl (va_cons (vp 0) (va_cons ve_str va_nil))))) (vss_one (vs_ret ve_non)) vss_nil)
      (vss_one (vs_ret (ve_lst (va_cons (ve_tup (va_cons (ve_xix (vp 1) ve_int) (va_cons (ve_xix (vp 0) ve_int) (va_cons (vp 2) va_nil)))) (va_cons (ve_tup (va_cons (ve_xix (vp 1) ve_int) (va_cons (ve_xix (vp 0) ve_int) (va_cons (vp 2) va_nil)))) va_nil)))))) vss_nil)
    (vss_cons (vs_if (VW.vt (vw_or (vt_not (vt_truth (ve_call finW_D G_hasword hr h_hasword rfl (va_cons (vp 0) (va_cons ve_str va_nil))))) (vw_or (vt_not (vt_val (ve_isi (T := "str") (by decide) rfl B.isinstance rfl B.str (by decide +kernel) (ve_xix (vp 0) ve_int)))) (vw_or1 (vt_not (vt_truth (ve_call finW_D G_iskind hr h_iskind rfl (va_cons (ve_xix (vp 0) ve_int) va_nil)))))))) (vss_one (vs_ret ve_non)) vss_nil)
    (vss_cons (vs_if (VW.vt (vw_or (vt_xne hu (ve_xix (vp 0) ve_int) (ve_joinC (ve_fmt (ve_sub (ve_len rfl B.len (va_cons (vp 2) va_nil)) (vp 3))))) (vw_or1 (vt_xne hu (ve_xix (vp 0) ve_int) (ve_xix (vp 1) ve_int))))) (vss_one (vs_ret ve_non)) vss_nil)
    (vss_one (vs_ret (ve_lst (va_cons (ve_tup (va_cons (ve_xix (vp 1) ve_int) (va_cons (ve_xix (vp 0) ve_int) (va_cons (ve_add (vp 2) (ve_tup (va_cons (ve_xix (vp 1) ve_int) va_nil))) va_nil)))) va_nil))))))))
  exact h
theorem ok_readframe {P : Program} {w : World} {K : PySem.W.Frag} {mg : Str → Option Value} {base : Heap} {k : Nat} {p : VSp} (Fd : Df K mg "read_frame" sreadframe ["part", "kind", "scope", "given"]) {k_hasword : Nat} {p_hasword : VSp} (G_hasword : VFn P w K mg base k_hasword "has_word" ["part", "word"] p_hasword) (h_hasword : k_hasword ≤ k) {k_iskind : Nat} {p_iskind : VSp} (G_iskind : VFn P w K mg base k_iskind "is_kind" ["thing"] p_iskind) (h_iskind : k_iskind ≤ k) (B : Blt mg)
    (len : ∀ ss st Kp, p ss st Kp → ss.length = 4) (rd : ∀ ss cs Kp, p ss cs Kp → t_readframe p_hasword p_iskind (dV cs.length Kp) ⟨startV 4 ss, cs.map some⟩) : VFn P w K mg base (k + 1) "read_frame" ["part", "kind", "scope", "given"] p :=
  okF Fd screadframe len (fun hr => bd_readframe G_hasword h_hasword G_iskind h_iskind B hr) rd
abbrev sgonealong : Stmt := top 26
abbrev ngonealong : List Str := ["kind", "moves", "scope", "way", "inner", "move"]
theorem scgonealong : FnScope ngonealong ["kind", "moves", "scope"] (defScope sgonealong) := ⟨rfl, rfl, rfl, by decide +kernel, rfl, by decide +kernel, by decide +kernel⟩
theorem bd_gonealong {P : Program} {w : World} {K : PySem.W.Frag} {mg : Str → Option Value} {base : Heap} {k : Nat} {k_waysof : Nat} {p_waysof : VSp} (G_waysof : VFn P w K mg base k_waysof "ways_of" ["kind"] p_waysof) (h_waysof : k_waysof ≤ k) (B : Blt mg) {f : Addr} {cdv : Value} {A : Around} {outer : List Env} {s : Shared} {H : Hp} {E : XK}
    (hr : Room k (A.deeper (envOfC "gone_along" (defScope sgonealong) s.heap.objs.size f cdv))) : VSs (cxOf CX0 P w K mg base ngonealong "gone_along" (defScope sgonealong) f cdv A outer s H E).nox (defBody sgonealong) (t_gonealong p_waysof) := by
  have hu := u190 hr
  have h : VSs (cxOf CX0 P w K mg base ngonealong "gone_along" (defScope sgonealong) f cdv A outer s H E).nox (defBody sgonealong) (vSeq (vSet 3 (vC (.int 0))) (vSeq (vSet 4 (vN opLstO vNil)) (vSeq (vForW (vSeqI (vVar 1)) (vgName 5)
      (vSeq (vIfS (vTest (v2 (xEq true) (v2 xIx (vVar 0) (vC (.int 0))) (vIfE (vTest (v2 (xEq false) (v2 xIx (vVar 5) (vC (.int 0))) (vC (.str "give")))) (vC (.str "to")) (vC (.str "both"))))) ((vRet (vC .none))) vNext) (vSeq (vIfS (vTest (v2 (xEq false) (v2 xIx (vVar 5) (vC (.int 0))) (vC (.str "give")))) ((vDrop (vM "list" opAppend (vVar 4) (vCons (vN opTup (vCons (v2 xIx (vVar 0) (vC (.int 1))) (vCons (v2 xIx (vVar 5) (vC (.int 2))) (vCons (vVar 2) vNil)))) vNil)))) ((vIfS (vTest (v2 (xEq false) (v2 xIx (vVar 5) (vC (.int 0))) (vC (.str "second")))) ((vAug (fun a b => a + b) 3 (vN opLen (vCons (vN (opCallK ownD p_waysof) (vCons (v2 xIx (vVar 0) (vC (.int 1))) vNil)) vNil)))) vNext))) ((vSet 0 (vIfE (vTest (v2 (xEq false) (v2 xIx (vVar 5) (vC (.int 0))) (vC (.str "first")))) (v2 xIx (vVar 0) (vC (.int 1))) (v2 xIx (vVar 0) (vC (.int 2))))))))) ((vRet (vN opTup (vCons (vVar 0) (vCons (vVar 3) (vCons (vVar 4) vNil))))))))) := (vss_cons (vs_set (i := 3) scgonealong.nd rfl (Or.inl rfl) ve_int)
    (vss_cons (vs_set (i := 4) scgonealong.nd rfl (Or.inl rfl) (ve_lstO va_nil))
    (vss_cons (vs_forW (vi_list (vp 1)) (vg_name (i := 5) scgonealong.nd rfl (Or.inl rfl))
      (vss_cons (vs_if (vt_xne hu (ve_xix (vp 0) ve_int) (ve_ifExp (vt_xeq hu (ve_xix (vp 5) ve_int) ve_str) ve_str ve_str)) (vss_one (vs_ret ve_non)) vss_nil)
      (vss_cons (vs_if (vt_xeq hu (ve_xix (vp 5) ve_int) ve_str) (vss_one (vs_expr (ve_append (vp 4) (va_cons (ve_tup (va_cons (ve_xix (vp 0) ve_int) (va_cons (ve_xix (vp 5) ve_int) (va_cons (vp 2) va_nil)))) va_nil)))) (vss_one (vs_if (vt_xeq hu (ve_xix (vp 5) ve_int) ve_str) (vss_one (vs_aug (i := 3) (g := fun a b => a + b) scgonealong.nd rfl (Or.inl rfl) (ve_len rfl B.len (va_cons (ve_call finW_D G_waysof hr h_waysof rfl (va_cons (ve_xix (vp 0) ve_int) va_nil)) va_nil)) ip_add (fun h => ps_aug scgonealong.nd rfl (Or.inl rfl) h ip_add))) vss_nil)))
      (vss_one (vs_set (i := 0) scgonealong.nd rfl (Or.inl rfl) (ve_ifExp (vt_xeq hu (ve_xix (vp 5) ve_int) ve_str) (ve_xix (vp 0) ve_int) (ve_xix (vp 0) ve_int)))))) (fun a b c => ps_for PassesOwn.never rfl a b c))
    (vss_one (vs_ret (ve_tup (va_cons (vp 0) (va_cons (vp 3) (va_cons (vp 4) va_nil)))))))))
  exact h
theorem ok_gonealong {P : Program} {w : World} {K : PySem.W.Frag} {mg : Str → Option Value} {base : Heap} {k : Nat} {p : VSp} (Fd : Df K mg "gone_along" sgonealong ["kind", "moves", "scope"]) {k_waysof : Nat} {p_waysof : VSp} (G_waysof : VFn P w K mg base k_waysof "ways_of" ["kind"] p_waysof) (h_waysof : k_waysof ≤ k) (B : Blt mg)
    (len : ∀ ss st Kp, p ss st Kp → ss.length = 3) (rd : ∀ ss cs Kp, p ss cs Kp → t_gonealong p_waysof (dV cs.length Kp) ⟨startV 6 ss, cs.map some⟩) : VFn P w K mg base (k + 1) "gone_along" ["kind", "moves", "scope"] p :=
  okF Fd scgonealong len (fun hr => bd_gonealong G_waysof h_waysof B hr) rd
abbrev sreadspot : Stmt := top 25
abbrev nreadspot : List Str := ["part", "mark", "scope", "numbers", "spots", "moves", "index", "told"]
theorem screadspot : FnScope nreadspot ["part", "mark", "scope", "numbers", "spots"] (defScope sreadspot) := ⟨rfl, rfl, rfl, by decide +kernel, rfl, by decide +kernel, by decide +kernel⟩
theorem bd_readspot {P : Program} {w : World} {K : PySem.W.Frag} {mg : Str → Option Value} {base : Heap} {k : Nat} {k_hasword : Nat} {p_hasword : VSp} (G_hasword : VFn P w K mg base k_hasword "has_word" ["part", "word"] p_hasword) (h_hasword : k_hasword ≤ k) {k_gonealong : Nat} {p_gonealong : VSp} (G_gonealong : VFn P w K mg base k_gonealong "gone_along" ["kind", "moves", "scope"] p_gonealong) (h_gonealong : k_gonealong ≤ k) (h_1 : 1 ≤ k) (h1_hasword : k_hasword ≤ k - 1) (c_MOVES : VConst K mg "MOVES" (.tuple [.str "first", .str "second", .str "give"])) (B : Blt mg) {f : Addr} {cG PG : Addr} (TB : GxR.TabB base mg cG PG) (tk : TbK K PG) {A : Around} {outer : List Env} {s : Shared} {H : Hp} {E : XK}
    (hr : Room k (A.deeper (envOfC "read_spot" (defScope sreadspot) s.heap.objs.size f (.ref cG)))) : VSs (cxOf CX0 P w K mg base nreadspot "read_spot" (defScope sreadspot) f (.ref cG) A outer s H E).nox (defBody sreadspot) (t_readspot p_hasword p_gonealong) := by
  have hu := u190 hr
  have h : VSs (cxOf CX0 P w K mg base nreadspot "read_spot" (defScope sreadspot) f (.ref cG) A outer s H E).nox (defBody sreadspot) (vSeq (vSet 5 (vN opLstO vNil)) (vSeq (vWhileW (vNotT (vTruth (vN (opCallK ownD p_hasword) (vCons (vVar 0) (vCons (vC (.str "name")) vNil)))))
      (vSeq (vIfS (vNotT (vTest (vAG false (vTupI (vC (.tuple [.str "first", .str "second", .str "give"]))) [none, some 0] [0] (vgName 0) (vN (opCallK ownD p_hasword) (vCons (vVar 1) (vCons (vVar 0) vNil)))))) ((vRet (vC .none))) vNext) (vSeq (vDrop (vM "list" opAppend (vVar 5) (vCons (vVar 0) vNil))) ((vSet 0 (v2 xIx (vVar 0) (vC (.int 1)))))))) (vSeq (vSet 6 (vIfE (vTest (vIsi "str" (v2 xIx (vVar 0) (vC (.int 1))))) (vDGet2 (vVar 3) (v2 xIx (vVar 0) (vC (.int 1))) (vN opLen (vCons (vVar 2) vNil))) (vN opLen (vCons (vVar 2) vNil)))) (vSeq (vIfS (vTest (v2 opGe (vVar 6) (vN opLen (vCons (vVar 2) vNil)))) ((vRet (vC .none))) vNext) (vSeq (vSet 7 (vN (opCallK ownD p_gonealong) (vCons (v2 xIx (vVar 2) (vVar 6)) (vCons (v1 opRev (vVar 5)) (vCons (vVar 2) vNil))))) (vSeq (vIfS (vOrT (vTest (v2 (xIsN false) (vVar 7) (vC .none))) (vTest (v2 (xEq true) (v2 xIx (vVar 7) (vC (.int 0))) (vN opTup (vCons (vC (.str "mark")) (vCons (vVar 1) vNil)))))) ((vRet (vC .none))) vNext) (vSeq (vDrop (vM "list" opAppend (vVar 4) (vCons (vN opTup (vCons (vVar 2) (vCons (vVar 6) (vCons (v2 xIx (vVar 7) (vC (.int 1))) (vCons (vVar 1) vNil))))) vNil))) ((vRet (v2 xIx (vVar 7) (vC (.int 2)))))))))))) := (vss_cons (vs_set (i := 5) screadspot.nd rfl (Or.inl rfl) (ve_lstO va_nil))
    (vss_cons (vs_whileW PassesOwn.never (vt_not (vt_truth (ve_call finW_D G_hasword hr h_hasword rfl (va_cons (vp 0) (va_cons ve_str va_nil)))))
      (vss_cons (vs_if (vt_not (vt_val (ve_anyG (N := ["word", "part"]) (caps := [none, some 0]) (vs := [0]) hr h_1 rfl B.any TB tk rfl (gsc_by (sn := (defScope sreadspot).names) rfl rfl rfl rfl (by decide +kernel)) (caps_by (XN := nreadspot) rfl (by decide +kernel)) (vi_tup (ve_const c_MOVES rfl)) (fun _ _ _ _ _ _ hr => have hu := u190 hr; (vg_name (i := 0) (GNd.mk (N := ["word", "part"]) (by decide)).nd rfl (Or.inl rfl))) (fun _ _ _ _ _ _ hr => have hu := u190 hr; (ve_call finW_D G_hasword hr h1_hasword rfl (va_cons (vp 1) (va_cons (vp 0) va_nil))))))) (vss_one (vs_ret ve_non)) vss_nil)
      (vss_cons (vs_expr (ve_append (vp 5) (va_cons (vp 0) va_nil)))
      (vss_one (vs_set (i := 0) screadspot.nd rfl (Or.inr rfl) (ve_xix (vp 0) ve_int))))))
    (vss_cons (vs_set (i := 6) screadspot.nd rfl (Or.inl rfl) (ve_ifExp (vt_val (ve_isi (T := "str") (by decide) rfl B.isinstance rfl B.str (by decide +kernel) (ve_xix (vp 0) ve_int))) (ve_dget2 hu (vp 3) (ve_xix (vp 0) ve_int) (ve_len rfl B.len (va_cons (vp 2) va_nil))) (ve_len rfl B.len (va_cons (vp 2) va_nil))))
    (vss_cons (vs_if (vt_ge (vp 6) (ve_len rfl B.len (va_cons (vp 2) va_nil))) (vss_one (vs_ret ve_non)) vss_nil)
    (vss_cons (vs_set (i := 7) screadspot.nd rfl (Or.inl rfl) (ve_call finW_D G_gonealong hr h_gonealong rfl (va_cons (ve_xix (vp 2) (vp 6)) (va_cons (ve_rev (vp 5)) (va_cons (vp 2) va_nil)))))
    (vss_cons (vs_if (VW.vt (vw_or (vt_xisN (vp 7) ve_non) (vw_or1 (vt_xne hu (ve_xix (vp 7) ve_int) (ve_tup (va_cons ve_str (va_cons (vp 1) va_nil))))))) (vss_one (vs_ret ve_non)) vss_nil)
    (vss_cons (vs_expr (ve_append (vp 4) (va_cons (ve_tup (va_cons (vp 2) (va_cons (vp 6) (va_cons (ve_xix (vp 7) ve_int) (va_cons (vp 1) va_nil))))) va_nil)))
    (vss_one (vs_ret (ve_xix (vp 7) ve_int))))))))))
  exact h
theorem ok_readspot {P : Program} {w : World} {K : PySem.W.Frag} {mg : Str → Option Value} {base : Heap} {k : Nat} {p : VSp} {cG PG : Addr} (Fd : DfC K mg base "read_spot" sreadspot ["part", "mark", "scope", "numbers", "spots"] cG PG) {k_hasword : Nat} {p_hasword : VSp} (G_hasword : VFn P w K mg base k_hasword "has_word" ["part", "word"] p_hasword) (h_hasword : k_hasword ≤ k) {k_gonealong : Nat} {p_gonealong : VSp} (G_gonealong : VFn P w K mg base k_gonealong "gone_along" ["kind", "moves", "scope"] p_gonealong) (h_gonealong : k_gonealong ≤ k) (h_1 : 1 ≤ k) (h1_hasword : k_hasword ≤ k - 1) (c_MOVES : VConst K mg "MOVES" (.tuple [.str "first", .str "second", .str "give"])) (B : Blt mg)
    (len : ∀ ss st Kp, p ss st Kp → ss.length = 5) (rd : ∀ ss cs Kp, p ss cs Kp → t_readspot p_hasword p_gonealong (dV cs.length Kp) ⟨startV 8 ss, cs.map some⟩) : VFn P w K mg base (k + 1) "read_spot" ["part", "mark", "scope", "numbers", "spots"] p :=
  okFC Fd screadspot len (fun hr => bd_readspot G_hasword h_hasword G_gonealong h_gonealong h_1 h1_hasword c_MOVES B Fd.TB Fd.tk hr) rd
abbrev sspotsof : Stmt := top 22
abbrev nspotsof : List Str := ["row", "kind", "program", "numbers", "name", "given", "spots", "todo", "part", "scope", "inner"]
theorem scspotsof : FnScope nspotsof ["row", "kind", "program"] (defScope sspotsof) := ⟨rfl, rfl, rfl, by decide +kernel, rfl, by decide +kernel, by decide +kernel⟩
theorem bd_spotsof {P : Program} {w : World} {K : PySem.W.Frag} {mg : Str → Option Value} {base : Heap} {k : Nat} {k_readspot : Nat} {p_readspot : VSp} (G_readspot : VFn P w K mg base k_readspot "read_spot" ["part", "mark", "scope", "numbers", "spots"] p_readspot) (h_readspot : k_readspot ≤ k) {k_readframe : Nat} {p_readframe : VSp} (G_readframe : VFn P w K mg base k_readframe "read_frame" ["part", "kind", "scope", "given"] p_readframe) (h_readframe : k_readframe ≤ k) (B : Blt mg) {f : Addr} {cdv : Value} {A : Around} {outer : List Env} {s : Shared} {H : Hp} {E : XK}
    (hr : Room k (A.deeper (envOfC "spots_of" (defScope sspotsof) s.heap.objs.size f cdv))) : VSs (cxOf CX0 P w K mg base nspotsof "spots_of" (defScope sspotsof) f cdv A outer s H E).nox (defBody sspotsof) (t_spotsof p_readspot p_readframe) := by
  have hu := u190 hr
  have h : VSs (cxOf CX0 P w K mg base nspotsof "spots_of" (defScope sspotsof) f cdv A outer s H E).nox (defBody sspotsof) (vSeq (vSet 3 vDctM) (vSeq (vForW (vSeqI (vVar 0)) (vgTup 2 (vgCons (vgName 4) (vgCons (vgName 5) vgNil)))
      ((vAsg (vN opLenM (vCons (vVar 3) vNil)) (xgDSub (vVar 3) (vVar 4))))) (vSeq (vSet 6 (vN opLstO vNil)) (vSeq (vSet 7 (vN opLstO (vCons (vN opTup (vCons (vVar 1) (vCons (vVar 2) (vCons (vN opTuple (vCons (vLcK (vSeqI (vVar 0)) (vgTup 2 (vgCons (vgName 4) (vgCons (vgName 5) vgNil))) vYes (vVar 5) [4, 5] finD) vNil)) vNil)))) vNil))) (vSeq (vWhileW (vTruth (vVar 7))
      (vSeq (vAsg (vM0 "list" xPop (vVar 7)) (vgTup 3 (vgCons (vgName 1) (vgCons (vgName 8) (vgCons (vgName 9) vgNil))))) (vSeq (vIfS (vTest (v2 (xEq false) (v2 xIx (vVar 1) (vC (.int 0))) (vC (.str "mark")))) ((vSet 10 (vN (opCallK ownD p_readspot) (vCons (vVar 8) (vCons (v2 xIx (vVar 1) (vC (.int 1))) (vCons (vVar 9) (vCons (vVar 3) (vCons (vVar 6) vNil)))))))) ((vSet 10 (vN (opCallK ownD p_readframe) (vCons (vVar 8) (vCons (vVar 1) (vCons (vVar 9) (vCons (vN opLen (vCons (vVar 0) vNil)) vNil)))))))) (vSeq (vIfS (vTest (v2 (xEq false) (v2 xIx (vVar 1) (vC (.int 0))) (vC (.str "to")))) ((vAsg (vN opLen (vCons (vVar 9) vNil)) (xgDSub (vVar 3) (vJoinC "x" (vFmt (v2 opSub (vN opLen (vCons (vVar 9) vNil)) (vN opLen (vCons (vVar 0) vNil)))))))) vNext) (vSeq (vIfS (vTest (v2 (xIsN false) (vVar 10) (vC .none))) ((vRet (vC .none))) vNext) ((vDrop (vM "list" opExtend (vVar 7) (vCons (v1 opRev (vVar 10)) vNil))))))))) ((vRet (vVar 6)))))))) := (vss_cons (vs_set (i := 3) scspotsof.nd rfl (Or.inl rfl) ve_dctM)
    (vss_cons (vs_forW (vi_list (vp 0)) (vg_tup rfl (vgs_cons (vg_name (i := 4) scspotsof.nd rfl (Or.inl rfl)) (vgs_cons (vg_name (i := 5) scspotsof.nd rfl (Or.inl rfl)) vgs_nil)))
      (vss_one (vs_asg (ve_lenM rfl B.len (va_cons (vp 3) va_nil)) (vg_dsub (vp 3) (vp 4) (fun a b => pg_sub a b (set_dict (u1 hu)))))) (fun a b c => ps_for PassesOwn.never rfl a b c))
    (vss_cons (vs_set (i := 6) scspotsof.nd rfl (Or.inl rfl) (ve_lstO va_nil))
    (vss_cons (vs_set (i := 7) scspotsof.nd rfl (Or.inl rfl) (ve_lstO (va_cons (ve_tup (va_cons (vp 1) (va_cons (vp 2) (va_cons (ve_tuple rfl B.tuple (va_cons (ve_lcK (own := [("name", 4), ("given", 5)]) finD_ok rfl scspotsof.nd (vi_list (vp 0)) (blkOk_by (N := nspotsof) (sc := defScope sspotsof) (own := [("name", 4), ("given", 5)]) (by decide +kernel)) (by decide) (fun _ _ _ _ _ => (vg_tup rfl (vgs_cons (vg_name (i := 4) scspotsof.nd rfl (Or.inl rfl)) (vgs_cons (vg_name (i := 5) scspotsof.nd rfl (Or.inl rfl)) vgs_nil)))) (fun _ _ _ _ _ => vts_nil) (fun _ _ _ _ _ => (vp 5))) va_nil)) va_nil)))) va_nil)))
    (vss_cons (vs_whileW PassesOwn.never (vt_truth (vp 7))
      (vss_cons (vs_asg (ve_xpop (vp 7)) (vg_tup rfl (vgs_cons (vg_name (i := 1) scspotsof.nd rfl (Or.inl rfl)) (vgs_cons (vg_name (i := 8) scspotsof.nd rfl (Or.inl rfl)) (vgs_cons (vg_name (i := 9) scspotsof.nd rfl (Or.inl rfl)) vgs_nil)))))
      (vss_cons (vs_if (vt_xeq hu (ve_xix (vp 1) ve_int) ve_str) (vss_one (vs_set (i := 10) scspotsof.nd rfl (Or.inl rfl) (ve_call finW_D G_readspot hr h_readspot rfl (va_cons (vp 8) (va_cons (ve_xix (vp 1) ve_int) (va_cons (vp 9) (va_cons (vp 3) (va_cons (vp 6) va_nil)))))))) (vss_one (vs_set (i := 10) scspotsof.nd rfl (Or.inl rfl) (ve_call finW_D G_readframe hr h_readframe rfl (va_cons (vp 8) (va_cons (vp 1) (va_cons (vp 9) (va_cons (ve_len rfl B.len (va_cons (vp 0) va_nil)) va_nil))))))))
      (vss_cons (vs_if (vt_xeq hu (ve_xix (vp 1) ve_int) ve_str) (vss_one (vs_asg (ve_len rfl B.len (va_cons (vp 9) va_nil)) (vg_dsub (vp 3) (ve_joinC (ve_fmt (ve_sub (ve_len rfl B.len (va_cons (vp 9) va_nil)) (ve_len rfl B.len (va_cons (vp 0) va_nil))))) (fun a b => pg_sub a b (set_dict (u1 hu)))))) vss_nil)
      (vss_cons (vs_if (vt_xisN (vp 10) ve_non) (vss_one (vs_ret ve_non)) vss_nil)
      (vss_one (vs_expr (ve_extend (vp 7) (va_cons (ve_rev (vp 10)) va_nil)))))))))
    (vss_one (vs_ret (vp 6))))))))
  exact h
theorem ok_spotsof {P : Program} {w : World} {K : PySem.W.Frag} {mg : Str → Option Value} {base : Heap} {k : Nat} {p : VSp} (Fd : Df K mg "spots_of" sspotsof ["row", "kind", "program"]) {k_readspot : Nat} {p_readspot : VSp} (G_readspot : VFn P w K mg base k_readspot "read_spot" ["part", "mark", "scope", "numbers", "spots"] p_readspot) (h_readspot : k_readspot ≤ k) {k_readframe : Nat} {p_readframe : VSp} (G_readframe : VFn P w K mg base k_readframe "read_frame" ["part", "kind", "scope", "given"] p_readframe) (h_readframe : k_readframe ≤ k) (B : Blt mg)
    (len : ∀ ss st Kp, p ss st Kp → ss.length = 3) (rd : ∀ ss cs Kp, p ss cs Kp → t_spotsof p_readspot p_readframe (dV cs.length Kp) ⟨startV 11 ss, cs.map some⟩) : VFn P w K mg base (k + 1) "spots_of" ["row", "kind", "program"] p :=
  okF Fd scspotsof len (fun hr => bd_spotsof G_readspot h_readspot G_readframe h_readframe B hr) rd
abbrev sspellingofX : Stmt := top 42
abbrev nspellingofX : List Str := ["row", "kind", "program", "spots", "scope", "index", "way", "mark"]
theorem scspellingofX : FnScope nspellingofX ["row", "kind", "program"] (defScope sspellingofX) := ⟨rfl, rfl, rfl, by decide +kernel, rfl, by decide +kernel, by decide +kernel⟩
theorem bd_spellingofX {P : Program} {w : World} {K : PySem.W.Frag} {mg : Str → Option Value} {base : Heap} {k : Nat} {k_spotsof : Nat} {p_spotsof : VSp} (G_spotsof : VFn P w K mg base k_spotsof "spots_of" ["row", "kind", "program"] p_spotsof) (h_spotsof : k_spotsof ≤ k) (XC_NoLong : XCl K mg "NoLong") {f : Addr} {cdv : Value} {A : Around} {outer : List Env} {s : Shared} {H : Hp} {E : XK}
    (hr : Room k (A.deeper (envOfC "spelling_of" (defScope sspellingofX) s.heap.objs.size f cdv))) : VSs (cxOf (L2.CX P w) P w K mg base nspellingofX "spelling_of" (defScope sspellingofX) f cdv A outer s H E) (defBody sspellingofX) (t_spellingofX p_spotsof) := by
  have h : VSs (cxOf (L2.CX P w) P w K mg base nspellingofX "spelling_of" (defScope sspellingofX) f cdv A outer s H E) (defBody sspellingofX) (vSeq (vSet 3 (vN (opCallK ownD p_spotsof) (vCons (vVar 0) (vCons (vVar 1) (vCons (vVar 2) vNil))))) (vSeq (vIfS (vTest (v2 (xIsN false) (vVar 3) (vC .none))) ((vRaise "NoLong")) vNext) ((vRet (vLcK (vSeqI (vVar 3)) (vgTup 4 (vgCons (vgName 4) (vgCons (vgName 5) (vgCons (vgName 6) (vgCons (vgName 7) vgNil))))) vYes (vN opTup (vCons (vVar 5) (vCons (vVar 6) vNil))) [4, 5, 6, 7] finD))))) := (vss_cons (vs_set (i := 3) scspellingofX.nd rfl (Or.inl rfl) (ve_call finW_D G_spotsof hr h_spotsof rfl (va_cons (vp 0) (va_cons (vp 1) (va_cons (vp 2) va_nil)))))
    (vss_cons (vs_if (vt_xisN (vp 3) ve_non) (vss_one (vs_raise rfl XC_NoLong rfl)) vss_nil)
    (vss_one (vs_ret (ve_lcK (own := [("scope", 4), ("index", 5), ("way", 6), ("mark", 7)]) finD_ok rfl scspellingofX.nd (vi_list (vp 3)) (blkOk_by (N := nspellingofX) (sc := defScope sspellingofX) (own := [("scope", 4), ("index", 5), ("way", 6), ("mark", 7)]) (by decide +kernel)) (by decide) (fun _ _ _ _ _ => (vg_tup rfl (vgs_cons (vg_name (i := 4) scspellingofX.nd rfl (Or.inl rfl)) (vgs_cons (vg_name (i := 5) scspellingofX.nd rfl (Or.inl rfl)) (vgs_cons (vg_name (i := 6) scspellingofX.nd rfl (Or.inl rfl)) (vgs_cons (vg_name (i := 7) scspellingofX.nd rfl (Or.inl rfl)) vgs_nil)))))) (fun _ _ _ _ _ => vts_nil) (fun _ _ _ _ _ => (ve_tup (va_cons (vp 5) (va_cons (vp 6) va_nil)))))))))
  exact h
theorem ok_spellingofX {P : Program} {w : World} {K : PySem.W.Frag} {mg : Str → Option Value} {base : Heap} {k : Nat} {p : VSx} (Fd : Df K mg "spelling_of" sspellingofX ["row", "kind", "program"]) {k_spotsof : Nat} {p_spotsof : VSp} (G_spotsof : VFn P w K mg base k_spotsof "spots_of" ["row", "kind", "program"] p_spotsof) (h_spotsof : k_spotsof ≤ k) (XC_NoLong : XCl K mg "NoLong")
    (len : ∀ ss st Kp Ep, p ss st Kp Ep → ss.length = 3) (rd : ∀ ss cs Kp Ep, p ss cs Kp Ep → t_spellingofX p_spotsof (dX cs.length Kp Ep) ⟨startV 8 ss, cs.map some⟩) : VFx P w K mg base (k + 1) "spelling_of" ["row", "kind", "program"] p :=
  okFX Fd scspellingofX len (fun hr => bd_spellingofX G_spotsof h_spotsof XC_NoLong hr) rd
abbrev snumberofX : Stmt := top 43
abbrev nnumberofX : List Str := ["row", "kind", "program", "spelling", "size", "sums", "number", "left", "todo", "spot", "scope", "mark", "behind", "index", "way", "dues"]
theorem scnumberofX : FnScope nnumberofX ["row", "kind", "program"] (defScope snumberofX) := ⟨rfl, rfl, rfl, by decide +kernel, rfl, by decide +kernel, by decide +kernel⟩
theorem bd_numberofX {P : Program} {w : World} {K : PySem.W.Frag} {mg : Str → Option Value} {base : Heap} {k : Nat} {kX_spellingof : Nat} {q_spellingof : VSx} (GX_spellingof : VFx P w K mg base kX_spellingof "spelling_of" ["row", "kind", "program"] q_spellingof) (hX_spellingof : kX_spellingof ≤ k) {f : Addr} {cdv : Value} {A : Around} {outer : List Env} {s : Shared} {H : Hp} {E : XK}
    (hr : Room k (A.deeper (envOfC "number_of" (defScope snumberofX) s.heap.objs.size f cdv))) : VSs (cxOf (L2.CX P w) P w K mg base nnumberofX "number_of" (defScope snumberofX) f cdv A outer s H E) (defBody snumberofX) (t_numberofX q_spellingof) := by
  have h : VSs (cxOf (L2.CX P w) P w K mg base nnumberofX "number_of" (defScope snumberofX) f cdv A outer s H E) (defBody snumberofX) (vDead (xSet 3 (Vl.xN (xCallK ownD q_spellingof) (vCons (vVar 0) (vCons (vVar 1) (vCons (vVar 2) vNil)))))) := (vss_dead (xs_set (i := 3) scnumberofX.nd rfl (Or.inl rfl) (vx_call finW_D GX_spellingof hr hX_spellingof rfl (va_cons (vp 0) (va_cons (vp 1) (va_cons (vp 2) va_nil))))))
  exact h
theorem ok_numberofX {P : Program} {w : World} {K : PySem.W.Frag} {mg : Str → Option Value} {base : Heap} {k : Nat} {p : VSx} (Fd : Df K mg "number_of" snumberofX ["row", "kind", "program"]) {kX_spellingof : Nat} {q_spellingof : VSx} (GX_spellingof : VFx P w K mg base kX_spellingof "spelling_of" ["row", "kind", "program"] q_spellingof) (hX_spellingof : kX_spellingof ≤ k)
    (len : ∀ ss st Kp Ep, p ss st Kp Ep → ss.length = 3) (rd : ∀ ss cs Kp Ep, p ss cs Kp Ep → t_numberofX q_spellingof (dX cs.length Kp Ep) ⟨startV 16 ss, cs.map some⟩) : VFx P w K mg base (k + 1) "number_of" ["row", "kind", "program"] p :=
  okFX Fd scnumberofX len (fun hr => bd_numberofX GX_spellingof hX_spellingof hr) rd
abbrev ssizeof : Stmt := top 49
abbrev nsizeof : List Str := ["program", "size", "todo", "part"]
theorem scsizeof : FnScope nsizeof ["program"] (defScope ssizeof) := ⟨rfl, rfl, rfl, by decide +kernel, rfl, by decide +kernel, by decide +kernel⟩
theorem bd_sizeof {P : Program} {w : World} {K : PySem.W.Frag} {mg : Str → Option Value} {base : Heap} {k : Nat} {k_programsin : Nat} {p_programsin : VSp} (G_programsin : VFn P w K mg base k_programsin "programs_in" ["part"] p_programsin) (h_programsin : k_programsin ≤ k) {f : Addr} {cdv : Value} {A : Around} {outer : List Env} {s : Shared} {H : Hp} {E : XK}
    (hr : Room k (A.deeper (envOfC "size_of" (defScope ssizeof) s.heap.objs.size f cdv))) : VSs (cxOf CX0 P w K mg base nsizeof "size_of" (defScope ssizeof) f cdv A outer s H E).nox (defBody ssizeof) (t_sizeof p_programsin) := by
  have hu := u190 hr
  have h : VSs (cxOf CX0 P w K mg base nsizeof "size_of" (defScope ssizeof) f cdv A outer s H E).nox (defBody ssizeof) (vSeq (vSet 1 (vC (.int 0))) (vSeq (vSet 2 (vN opLstO (vCons (vVar 0) vNil))) (vSeq (vWhileW (vTruth (vVar 2))
      (vSeq (vSet 3 (vM0 "list" xPop (vVar 2))) (vSeq (vIfS (vTest (v2 (xEq false) (v2 xIx (vVar 3) (vC (.int 0))) (vC (.str "name")))) ((vAug (fun a b => a + b) 1 (vC (.int 1)))) vNext) ((vDrop (vM "list" opExtend (vVar 2) (vCons (vN (opCallK ownD p_programsin) (vCons (vVar 3) vNil)) vNil))))))) ((vRet (vVar 1)))))) := (vss_cons (vs_set (i := 1) scsizeof.nd rfl (Or.inl rfl) ve_int)
    (vss_cons (vs_set (i := 2) scsizeof.nd rfl (Or.inl rfl) (ve_lstO (va_cons (vp 0) va_nil)))
    (vss_cons (vs_whileW PassesOwn.never (vt_truth (vp 2))
      (vss_cons (vs_set (i := 3) scsizeof.nd rfl (Or.inl rfl) (ve_xpop (vp 2)))
      (vss_cons (vs_if (vt_xeq hu (ve_xix (vp 3) ve_int) ve_str) (vss_one (vs_aug (i := 1) (g := fun a b => a + b) scsizeof.nd rfl (Or.inl rfl) ve_int ip_add (fun h => ps_aug scsizeof.nd rfl (Or.inl rfl) h ip_add))) vss_nil)
      (vss_one (vs_expr (ve_extend (vp 2) (va_cons (ve_call finW_D G_programsin hr h_programsin rfl (va_cons (vp 3) va_nil)) va_nil)))))))
    (vss_one (vs_ret (vp 1))))))
  exact h
theorem ok_sizeof {P : Program} {w : World} {K : PySem.W.Frag} {mg : Str → Option Value} {base : Heap} {k : Nat} {p : VSp} (Fd : Df K mg "size_of" ssizeof ["program"]) {k_programsin : Nat} {p_programsin : VSp} (G_programsin : VFn P w K mg base k_programsin "programs_in" ["part"] p_programsin) (h_programsin : k_programsin ≤ k)
    (len : ∀ ss st Kp, p ss st Kp → ss.length = 1) (rd : ∀ ss cs Kp, p ss cs Kp → t_sizeof p_programsin (dV cs.length Kp) ⟨startV 4 ss, cs.map some⟩) : VFn P w K mg base (k + 1) "size_of" ["program"] p :=
  okF Fd scsizeof len (fun hr => bd_sizeof G_programsin h_programsin hr) rd
abbrev sLpool : Stmt := top 51
abbrev nLpool : List Str := ["_law_script", "_law_k", "_law_cell", "_law_number"]
theorem scLpool : FnScope nLpool ["_law_script", "_law_k"] (defScope sLpool) := ⟨rfl, rfl, rfl, by decide +kernel, rfl, by decide +kernel, by decide +kernel⟩
theorem bd_Lpool {P : Program} {w : World} {K : PySem.W.Frag} {mg : Str → Option Value} {base : Heap} {k : Nat} (B : Blt mg) {f : Addr} {cdv : Value} {A : Around} {outer : List Env} {s : Shared} {H : Hp} {E : XK}
    (hr : Room k (A.deeper (envOfC "_law_pool" (defScope sLpool) s.heap.objs.size f cdv))) : VSs (cxOf CX0 P w K mg base nLpool "_law_pool" (defScope sLpool) f cdv A outer s H E).nox (defBody sLpool) (t_Lpool) := by
  have h : VSs (cxOf CX0 P w K mg base nLpool "_law_pool" (defScope sLpool) f cdv A outer s H E).nox (defBody sLpool) (vSeq (vSet 2 (vC (.int 0))) (vSeq (vIfS (vTest (v2 opLt (vVar 1) (vN opLen (vCons (vVar 0) vNil)))) ((vSet 2 (v2 xIx (vVar 0) (vVar 1)))) vNext) (vSeq (vSet 3 (v2 opMod (v2 opPow (v2 opAdd (v2 opAdd (v2 opMod (vVar 2) (vC (.int 2147483629))) (v2 opMul2 (v2 opMul2 (vC (.int 104729)) (vVar 1)) (vVar 1))) (vC (.int 11))) (vC (.int 3))) (vC (.int 2147483647)))) (vSeq (vIfS (vTest (v2 opLt (vVar 2) (v2 opPow (vC (.int 10)) (vC (.int 18))))) ((vSet 2 (vC (.int 0)))) vNext) ((vRet (vN opLstO (vCons (vVar 2) (vCons (vVar 3) vNil))))))))) := (vss_cons (vs_set (i := 2) scLpool.nd rfl (Or.inl rfl) ve_int)
    (vss_cons (vs_if (vt_lt (vp 1) (ve_len rfl B.len (va_cons (vp 0) va_nil))) (vss_one (vs_set (i := 2) scLpool.nd rfl (Or.inl rfl) (ve_xix (vp 0) (vp 1)))) vss_nil)
    (vss_cons (vs_set (i := 3) scLpool.nd rfl (Or.inl rfl) (ve_mod (ve_pow (ve_add (ve_add (ve_mod (vp 2) ve_int) (ve_mul2 (ve_mul2 ve_int (vp 1)) (vp 1))) ve_int) ve_int) ve_int))
    (vss_cons (vs_if (vt_lt (vp 2) (ve_pow ve_int ve_int)) (vss_one (vs_set (i := 2) scLpool.nd rfl (Or.inl rfl) ve_int)) vss_nil)
    (vss_one (vs_ret (ve_lstO (va_cons (vp 2) (va_cons (vp 3) va_nil)))))))))
  exact h
theorem ok_Lpool {P : Program} {w : World} {K : PySem.W.Frag} {mg : Str → Option Value} {base : Heap} {k : Nat} {p : VSp} (Fd : Df K mg "_law_pool" sLpool ["_law_script", "_law_k"]) (B : Blt mg)
    (len : ∀ ss st Kp, p ss st Kp → ss.length = 2) (rd : ∀ ss cs Kp, p ss cs Kp → t_Lpool (dV cs.length Kp) ⟨startV 4 ss, cs.map some⟩) : VFn P w K mg base (k + 1) "_law_pool" ["_law_script", "_law_k"] p :=
  okF Fd scLpool len (fun hr => bd_Lpool B hr) rd
abbrev sLtake : Stmt := top 52
abbrev nLtake : List Str := ["_law_pool_here", "_law_many", "_law_found"]
theorem scLtake : FnScope nLtake ["_law_pool_here", "_law_many"] (defScope sLtake) := ⟨rfl, rfl, rfl, by decide +kernel, rfl, by decide +kernel, by decide +kernel⟩
theorem bd_Ltake {P : Program} {w : World} {K : PySem.W.Frag} {mg : Str → Option Value} {base : Heap} {k : Nat} {f : Addr} {cdv : Value} {A : Around} {outer : List Env} {s : Shared} {H : Hp} {E : XK}
    (hr : Room k (A.deeper (envOfC "_law_take" (defScope sLtake) s.heap.objs.size f cdv))) : VSs (cxOf CX0 P w K mg base nLtake "_law_take" (defScope sLtake) f cdv A outer s H E).nox (defBody sLtake) (t_Ltake) := by
  have h : VSs (cxOf CX0 P w K mg base nLtake "_law_take" (defScope sLtake) f cdv A outer s H E).nox (defBody sLtake) (vSeq (vIfS (vTest (v2 opGt (v2 xIx (vVar 0) (vC (.int 0))) (vC (.int 0)))) (vSeq (vSet 2 (v2 opMod (v2 xIx (vVar 0) (vC (.int 0))) (vVar 1))) (vSeq (vAsg (v2 opDiv (v2 xIx (vVar 0) (vC (.int 0))) (vVar 1)) (xgSub (vVar 0) (vC (.int 0)))) ((vRet (vVar 2))))) vNext) (vSeq (vAsg (v2 opMod (v2 opAdd (v2 opMul2 (v2 xIx (vVar 0) (vC (.int 1))) (vC (.int 48271))) (vC (.int 11))) (vC (.int 2147483647))) (xgSub (vVar 0) (vC (.int 1)))) ((vRet (v2 opMod (v2 opDiv (v2 opMod (v2 opMul2 (v2 xIx (vVar 0) (vC (.int 1))) (v2 xIx (vVar 0) (vC (.int 1)))) (vC (.int 2147483629))) (vC (.int 64))) (vVar 1)))))) := (vss_cons (vs_if (vt_gt (ve_xix (vp 0) ve_int) ve_int) (vss_cons (vs_set (i := 2) scLtake.nd rfl (Or.inl rfl) (ve_mod (ve_xix (vp 0) ve_int) (vp 1)))
      (vss_cons (vs_asg (ve_div (ve_xix (vp 0) ve_int) (vp 1)) (vg_xsub (mono_var 0) (mono_c _) (vp 0) ve_int (fun a b => pg_sub a b set_list)))
      (vss_one (vs_ret (vp 2))))) vss_nil)
    (vss_cons (vs_asg (ve_mod (ve_add (ve_mul2 (ve_xix (vp 0) ve_int) ve_int) ve_int) ve_int) (vg_xsub (mono_var 0) (mono_c _) (vp 0) ve_int (fun a b => pg_sub a b set_list)))
    (vss_one (vs_ret (ve_mod (ve_div (ve_mod (ve_mul2 (ve_xix (vp 0) ve_int) (ve_xix (vp 0) ve_int)) ve_int) ve_int) (vp 1))))))
  exact h
theorem ok_Ltake {P : Program} {w : World} {K : PySem.W.Frag} {mg : Str → Option Value} {base : Heap} {k : Nat} {p : VSp} (Fd : Df K mg "_law_take" sLtake ["_law_pool_here", "_law_many"])
    (len : ∀ ss st Kp, p ss st Kp → ss.length = 2) (rd : ∀ ss cs Kp, p ss cs Kp → t_Ltake (dV cs.length Kp) ⟨startV 3 ss, cs.map some⟩) : VFn P w K mg base (k + 1) "_law_take" ["_law_pool_here", "_law_many"] p :=
  okF Fd scLtake len (fun hr => bd_Ltake hr) rd
abbrev sLkind : Stmt := top 53
abbrev nLkind : List Str := ["_law_pool_here", "_law_leaves", "_law_marks", "_law_one", "_law_word"]
theorem scLkind : FnScope nLkind ["_law_pool_here", "_law_leaves", "_law_marks"] (defScope sLkind) := ⟨rfl, rfl, rfl, by decide +kernel, rfl, by decide +kernel, by decide +kernel⟩
theorem bd_Lkind {P : Program} {w : World} {K : PySem.W.Frag} {mg : Str → Option Value} {base : Heap} {k : Nat} {k_Ltake : Nat} {p_Ltake : VSp} (G_Ltake : VFn P w K mg base k_Ltake "_law_take" ["_law_pool_here", "_law_many"] p_Ltake) (h_Ltake : k_Ltake ≤ k) {k_Lkind : Nat} {p_Lkind : VSp} (G_Lkind : VFn P w K mg base k_Lkind "_law_kind" ["_law_pool_here", "_law_leaves", "_law_marks"] p_Lkind) (h_Lkind : k_Lkind ≤ k) (B : Blt mg) {f : Addr} {cdv : Value} {A : Around} {outer : List Env} {s : Shared} {H : Hp} {E : XK}
    (hr : Room k (A.deeper (envOfC "_law_kind" (defScope sLkind) s.heap.objs.size f cdv))) : VSs (cxOf CX0 P w K mg base nLkind "_law_kind" (defScope sLkind) f cdv A outer s H E).nox (defBody sLkind) (t_Lkind p_Ltake p_Lkind) := by
  have hu := u190 hr
  have h : VSs (cxOf CX0 P w K mg base nLkind "_law_kind" (defScope sLkind) f cdv A outer s H E).nox (defBody sLkind) (vSeq (vIfS (vTest (v2 (xEq false) (vVar 1) (vC (.int 1)))) (vSeq (vIfS (vTest (v2 (xEq false) (vN (opCallK ownD p_Ltake) (vCons (vVar 0) (vCons (vC (.int 9)) vNil))) (vC (.int 8)))) ((vRet (vN opTup (vCons (vC (.str "one")) vNil)))) vNext) ((vRet (vN opTup (vCons (vC (.str "mark")) (vCons (v2 xIx (vVar 2) (vN (opCallK ownD p_Ltake) (vCons (vVar 0) (vCons (vN opLen (vCons (vVar 2) vNil)) vNil)))) vNil)))))) vNext) (vSeq (vSet 3 (v2 opAdd (vC (.int 1)) (vN (opCallK ownD p_Ltake) (vCons (vVar 0) (vCons (v2 opSub (vVar 1) (vC (.int 1))) vNil))))) (vSeq (vSet 4 (v2 xIx (vN opLst (vCons (vC (.str "to")) (vCons (vC (.str "to")) (vCons (vC (.str "both")) vNil)))) (vN (opCallK ownD p_Ltake) (vCons (vVar 0) (vCons (vC (.int 3)) vNil))))) ((vRet (vN opTup (vCons (vVar 4) (vCons (vN (opCallK ownD p_Lkind) (vCons (vVar 0) (vCons (vVar 3) (vCons (vVar 2) vNil)))) (vCons (vN (opCallK ownD p_Lkind) (vCons (vVar 0) (vCons (v2 opSub (vVar 1) (vVar 3)) (vCons (vVar 2) vNil)))) vNil))))))))) := (vss_cons (vs_if (vt_xeq hu (vp 1) ve_int) (vss_cons (vs_if (vt_xeq hu (ve_call finW_D G_Ltake hr h_Ltake rfl (va_cons (vp 0) (va_cons ve_int va_nil))) ve_int) (vss_one (vs_ret (ve_tup (va_cons ve_str va_nil)))) vss_nil)
      (vss_one (vs_ret (ve_tup (va_cons ve_str (va_cons (ve_xix (vp 2) (ve_call finW_D G_Ltake hr h_Ltake rfl (va_cons (vp 0) (va_cons (ve_len rfl B.len (va_cons (vp 2) va_nil)) va_nil)))) va_nil)))))) vss_nil)
    (vss_cons (vs_set (i := 3) scLkind.nd rfl (Or.inl rfl) (ve_add ve_int (ve_call finW_D G_Ltake hr h_Ltake rfl (va_cons (vp 0) (va_cons (ve_sub (vp 1) ve_int) va_nil)))))
    (vss_cons (vs_set (i := 4) scLkind.nd rfl (Or.inl rfl) (ve_xix (ve_lst (va_cons ve_str (va_cons ve_str (va_cons ve_str va_nil)))) (ve_call finW_D G_Ltake hr h_Ltake rfl (va_cons (vp 0) (va_cons ve_int va_nil)))))
    (vss_one (vs_ret (ve_tup (va_cons (vp 4) (va_cons (ve_call finW_D G_Lkind hr h_Lkind rfl (va_cons (vp 0) (va_cons (vp 3) (va_cons (vp 2) va_nil)))) (va_cons (ve_call finW_D G_Lkind hr h_Lkind rfl (va_cons (vp 0) (va_cons (ve_sub (vp 1) (vp 3)) (va_cons (vp 2) va_nil)))) va_nil)))))))))
  exact h
theorem ok_Lkind {P : Program} {w : World} {K : PySem.W.Frag} {mg : Str → Option Value} {base : Heap} {k : Nat} {p : VSp} (Fd : Df K mg "_law_kind" sLkind ["_law_pool_here", "_law_leaves", "_law_marks"]) {k_Ltake : Nat} {p_Ltake : VSp} (G_Ltake : VFn P w K mg base k_Ltake "_law_take" ["_law_pool_here", "_law_many"] p_Ltake) (h_Ltake : k_Ltake ≤ k) {k_Lkind : Nat} {p_Lkind : VSp} (G_Lkind : VFn P w K mg base k_Lkind "_law_kind" ["_law_pool_here", "_law_leaves", "_law_marks"] p_Lkind) (h_Lkind : k_Lkind ≤ k) (B : Blt mg)
    (len : ∀ ss st Kp, p ss st Kp → ss.length = 3) (rd : ∀ ss cs Kp, p ss cs Kp → t_Lkind p_Ltake p_Lkind (dV cs.length Kp) ⟨startV 5 ss, cs.map some⟩) : VFn P w K mg base (k + 1) "_law_kind" ["_law_pool_here", "_law_leaves", "_law_marks"] p :=
  okF Fd scLkind len (fun hr => bd_Lkind G_Ltake h_Ltake G_Lkind h_Lkind B hr) rd
abbrev sLways : Stmt := top 54
abbrev nLways : List Str := ["_law_kind_here", "_law_found", "_law_moves", "_law_mark"]
theorem scLways : FnScope nLways ["_law_kind_here"] (defScope sLways) := ⟨rfl, rfl, rfl, by decide +kernel, rfl, by decide +kernel, by decide +kernel⟩
theorem bd_Lways {P : Program} {w : World} {K : PySem.W.Frag} {mg : Str → Option Value} {base : Heap} {k : Nat} {k_Lways : Nat} {p_Lways : VSp} (G_Lways : VFn P w K mg base k_Lways "_law_ways" ["_law_kind_here"] p_Lways) (h_Lways : k_Lways ≤ k) (B : Blt mg) {f : Addr} {cdv : Value} {A : Around} {outer : List Env} {s : Shared} {H : Hp} {E : XK}
    (hr : Room k (A.deeper (envOfC "_law_ways" (defScope sLways) s.heap.objs.size f cdv))) : VSs (cxOf CX0 P w K mg base nLways "_law_ways" (defScope sLways) f cdv A outer s H E).nox (defBody sLways) (t_Lways p_Lways) := by
  have hu := u190 hr
  have h : VSs (cxOf CX0 P w K mg base nLways "_law_ways" (defScope sLways) f cdv A outer s H E).nox (defBody sLways) (vSeq (vIfS (vTest (v2 (xEq false) (vN opLen (vCons (vVar 0) vNil)) (vC (.int 1)))) ((vRet (vN opLst vNil))) vNext) (vSeq (vIfS (vTest (v2 (xEq false) (vN opLen (vCons (vVar 0) vNil)) (vC (.int 2)))) ((vRet (vN opLst (vCons (vN opTup (vCons (vN opLst vNil) (vCons (v2 xIx (vVar 0) (vC (.int 1))) vNil))) vNil)))) vNext) (vSeq (vIfS (vTest (v2 (xEq false) (v2 xIx (vVar 0) (vC (.int 0))) (vC (.str "to")))) ((vRet (vLcK (vSeqI (vN (opCallK ownD p_Lways) (vCons (v2 xIx (vVar 0) (vC (.int 2))) vNil))) (vgTup 2 (vgCons (vgName 2) (vgCons (vgName 3) vgNil))) vYes (vN opTup (vCons (v2 opAdd (vN opLst (vCons (v2 xIx (vVar 0) (vC (.int 1))) vNil)) (vVar 2)) (vCons (vVar 3) vNil))) [2, 3] finD))) vNext) (vSeq (vSet 1 (vLcK (vSeqI (vN (opCallK ownD p_Lways) (vCons (v2 xIx (vVar 0) (vC (.int 1))) vNil))) (vgTup 2 (vgCons (vgName 2) (vgCons (vgName 3) vgNil))) vYes (vN opTup (vCons (v2 opAdd (vN opLst (vCons (vC (.int 1)) vNil)) (vVar 2)) (vCons (vVar 3) vNil))) [2, 3] finD)) ((vRet (v2 opAdd (vVar 1) (vLcK (vSeqI (vN (opCallK ownD p_Lways) (vCons (v2 xIx (vVar 0) (vC (.int 2))) vNil))) (vgTup 2 (vgCons (vgName 2) (vgCons (vgName 3) vgNil))) vYes (vN opTup (vCons (v2 opAdd (vN opLst (vCons (vC (.int 2)) vNil)) (vVar 2)) (vCons (vVar 3) vNil))) [2, 3] finD)))))))) := (vss_cons (vs_if (vt_xeq hu (ve_len rfl B.len (va_cons (vp 0) va_nil)) ve_int) (vss_one (vs_ret (ve_lst va_nil))) vss_nil)
    (vss_cons (vs_if (vt_xeq hu (ve_len rfl B.len (va_cons (vp 0) va_nil)) ve_int) (vss_one (vs_ret (ve_lst (va_cons (ve_tup (va_cons (ve_lst va_nil) (va_cons (ve_xix (vp 0) ve_int) va_nil))) va_nil)))) vss_nil)
    (vss_cons (vs_if (vt_xeq hu (ve_xix (vp 0) ve_int) ve_str) (vss_one (vs_ret (ve_lcK (own := [("_law_moves", 2), ("_law_mark", 3)]) finD_ok rfl scLways.nd (vi_list (ve_call finW_D G_Lways hr h_Lways rfl (va_cons (ve_xix (vp 0) ve_int) va_nil))) (blkOk_by (N := nLways) (sc := defScope sLways) (own := [("_law_moves", 2), ("_law_mark", 3)]) (by decide +kernel)) (by decide) (fun _ _ _ _ _ => (vg_tup rfl (vgs_cons (vg_name (i := 2) scLways.nd rfl (Or.inl rfl)) (vgs_cons (vg_name (i := 3) scLways.nd rfl (Or.inl rfl)) vgs_nil)))) (fun _ _ _ _ _ => vts_nil) (fun _ _ _ _ _ => (ve_tup (va_cons (ve_add (ve_lst (va_cons (ve_xix (vp 0) ve_int) va_nil)) (vp 2)) (va_cons (vp 3) va_nil))))))) vss_nil)
    (vss_cons (vs_setLcK (i := 1) (own := [("_law_moves", 2), ("_law_mark", 3)]) finD_ok rfl scLways.nd rfl rfl (sw_true rfl rfl rfl (by decide +kernel)) (vi_list (ve_call finW_D G_Lways hr h_Lways rfl (va_cons (ve_xix (vp 0) ve_int) va_nil))) (blkOk_by (N := nLways) (sc := defScope sLways) (own := [("_law_moves", 2), ("_law_mark", 3)]) (by decide +kernel)) (by decide) (fun _ _ _ _ _ => (vg_tup rfl (vgs_cons (vg_name (i := 2) scLways.nd rfl (Or.inl rfl)) (vgs_cons (vg_name (i := 3) scLways.nd rfl (Or.inl rfl)) vgs_nil)))) (fun _ _ _ _ _ => vts_nil) (fun _ _ _ _ _ => (ve_tup (va_cons (ve_add (ve_lst (va_cons ve_int va_nil)) (vp 2)) (va_cons (vp 3) va_nil)))))
    (vss_one (vs_ret (ve_add (vp 1) (ve_lcK (own := [("_law_moves", 2), ("_law_mark", 3)]) finD_ok rfl scLways.nd (vi_list (ve_call finW_D G_Lways hr h_Lways rfl (va_cons (ve_xix (vp 0) ve_int) va_nil))) (blkOk_by (N := nLways) (sc := defScope sLways) (own := [("_law_moves", 2), ("_law_mark", 3)]) (by decide +kernel)) (by decide) (fun _ _ _ _ _ => (vg_tup rfl (vgs_cons (vg_name (i := 2) scLways.nd rfl (Or.inl rfl)) (vgs_cons (vg_name (i := 3) scLways.nd rfl (Or.inl rfl)) vgs_nil)))) (fun _ _ _ _ _ => vts_nil) (fun _ _ _ _ _ => (ve_tup (va_cons (ve_add (ve_lst (va_cons ve_int va_nil)) (vp 2)) (va_cons (vp 3) va_nil))))))))))))
  exact h
theorem ok_Lways {P : Program} {w : World} {K : PySem.W.Frag} {mg : Str → Option Value} {base : Heap} {k : Nat} {p : VSp} (Fd : Df K mg "_law_ways" sLways ["_law_kind_here"]) {k_Lways : Nat} {p_Lways : VSp} (G_Lways : VFn P w K mg base k_Lways "_law_ways" ["_law_kind_here"] p_Lways) (h_Lways : k_Lways ≤ k) (B : Blt mg)
    (len : ∀ ss st Kp, p ss st Kp → ss.length = 1) (rd : ∀ ss cs Kp, p ss cs Kp → t_Lways p_Lways (dV cs.length Kp) ⟨startV 4 ss, cs.map some⟩) : VFn P w K mg base (k + 1) "_law_ways" ["_law_kind_here"] p :=
  okF Fd scLways len (fun hr => bd_Lways G_Lways h_Lways B hr) rd
abbrev sLlonged : Stmt := top 55
abbrev nLlonged : List Str := ["_law_pool_here", "_law_known", "_law_kind_here", "_law_rest", "_law_takes", "_law_room", "_law_name", "_law_some", "_law_one", "_law_moves", "_law_found", "_law_move", "_law_mark"]
theorem scLlonged : FnScope nLlonged ["_law_pool_here", "_law_known", "_law_kind_here", "_law_rest"] (defScope sLlonged) := ⟨rfl, rfl, rfl, by decide +kernel, rfl, by decide +kernel, by decide +kernel⟩
theorem bd_Llonged {P : Program} {w : World} {K : PySem.W.Frag} {mg : Str → Option Value} {base : Heap} {k : Nat} {k_Llonged : Nat} {p_Llonged : VSp} (G_Llonged : VFn P w K mg base k_Llonged "_law_longed" ["_law_pool_here", "_law_known", "_law_kind_here", "_law_rest"] p_Llonged) (h_Llonged : k_Llonged ≤ k) {k_Lways : Nat} {p_Lways : VSp} (G_Lways : VFn P w K mg base k_Lways "_law_ways" ["_law_kind_here"] p_Lways) (h_Lways : k_Lways ≤ k) {k_Ltake : Nat} {p_Ltake : VSp} (G_Ltake : VFn P w K mg base k_Ltake "_law_take" ["_law_pool_here", "_law_many"] p_Ltake) (h_Ltake : k_Ltake ≤ k) (B : Blt mg) {f : Addr} {cdv : Value} {A : Around} {outer : List Env} {s : Shared} {H : Hp} {E : XK}
    (hr : Room k (A.deeper (envOfC "_law_longed" (defScope sLlonged) s.heap.objs.size f cdv))) : VSs (cxOf CX0 P w K mg base nLlonged "_law_longed" (defScope sLlonged) f cdv A outer s H E).nox (defBody sLlonged) (t_Llonged p_Llonged p_Lways p_Ltake) := by
  have hu := u190 hr
  have h : VSs (cxOf CX0 P w K mg base nLlonged "_law_longed" (defScope sLlonged) f cdv A outer s H E).nox (defBody sLlonged) (vSeq (vAsg (vVar 3) (vgTup 2 (vgCons (vgName 4) (vgCons (vgName 5) vgNil)))) (vSeq (vIfS (vTest (v2 (xEq false) (v2 xIx (vVar 2) (vC (.int 0))) (vC (.str "one")))) ((vRet (vN opTup (vCons (vC (.str "thing")) vNil)))) vNext) (vSeq (vIfS (vTest (v2 (xEq false) (v2 xIx (vVar 2) (vC (.int 0))) (vC (.str "both")))) ((vRet (vN opTup (vCons (vC (.str "pair")) (vCons (vN (opCallK ownD p_Llonged) (vCons (vVar 0) (vCons (vVar 1) (vCons (v2 xIx (vVar 2) (vC (.int 1))) (vCons (vVar 3) vNil))))) (vCons (vN (opCallK ownD p_Llonged) (vCons (vVar 0) (vCons (vVar 1) (vCons (v2 xIx (vVar 2) (vC (.int 2))) (vCons (vVar 3) vNil))))) vNil)))))) vNext) (vSeq (vIfS (vTest (v2 (xEq false) (v2 xIx (vVar 2) (vC (.int 0))) (vC (.str "to")))) (vSeq (vSet 6 (v2 opAdd (vC (.str "x")) (vN opStr (vCons (vVar 4) vNil)))) ((vRet (vN opTup (vCons (vC (.str "take")) (vCons (vVar 6) (vCons (v2 xIx (vVar 2) (vC (.int 1))) (vCons (vN (opCallK ownD p_Llonged) (vCons (vVar 0) (vCons (v2 opAdd (vVar 1) (vN opLst (vCons (vN opTup (vCons (vVar 6) (vCons (v2 xIx (vVar 2) (vC (.int 1))) vNil))) vNil))) (vCons (v2 xIx (vVar 2) (vC (.int 2))) (vCons (vN opTup (vCons (v2 opAdd (vVar 4) (vC (.int 1))) (vCons (vVar 5) vNil))) vNil))))) vNil)))))))) vNext) (vSeq (vSet 7 (vN opLst vNil)) (vSeq (vForW (vSeqI (vVar 1)) (vgTup 2 (vgCons (vgName 6) (vgCons (vgName 8) vgNil)))
      ((vSet 7 (v2 opAdd (vVar 7) (vLcK (vSeqI (vN (opCallK ownD p_Lways) (vCons (vVar 8) vNil))) (vgTup 2 (vgCons (vgName 9) (vgCons (vgName 12) vgNil))) (vTest (v2 (xEq false) (vVar 12) (v2 xIx (vVar 2) (vC (.int 1))))) (vN opTup (vCons (vVar 6) (vCons (vVar 9) vNil))) [9, 12] finD))))) (vSeq (vIfS (vTest (v2 opLt (vVar 5) (vC (.int 1)))) ((vSet 7 (vLcK (vSeqI (vVar 7)) (vgName 8) (vTest (v2 (xEq false) (v2 xIx (vVar 8) (vC (.int 1))) (vN opLst vNil))) (vVar 8) [8] finD))) vNext) (vSeq (vAsg (v2 xIx (vVar 7) (vN (opCallK ownD p_Ltake) (vCons (vVar 0) (vCons (vN opLen (vCons (vVar 7) vNil)) vNil)))) (vgTup 2 (vgCons (vgName 6) (vgCons (vgName 9) vgNil)))) (vSeq (vSet 10 (vN opTup (vCons (vC (.str "name")) (vCons (vVar 6) vNil)))) (vSeq (vForW (vSeqI (vVar 9)) (vgName 11)
      ((vIfS (vOrT (vTest (v2 (xEq false) (vVar 11) (vC (.int 1)))) (vTest (v2 (xEq false) (vVar 11) (vC (.int 2))))) ((vSet 10 (vN opTup (vCons (v2 xIx (vN opLst (vCons (vC (.str "first")) (vCons (vC (.str "second")) vNil))) (v2 opSub (vVar 11) (vC (.int 1)))) (vCons (vVar 10) vNil))))) ((vSet 10 (vN opTup (vCons (vC (.str "give")) (vCons (vVar 10) (vCons (vN (opCallK ownD p_Llonged) (vCons (vVar 0) (vCons (vVar 1) (vCons (vVar 11) (vCons (vN opTup (vCons (vVar 4) (vCons (v2 opSub (vVar 5) (vC (.int 1))) vNil))) vNil))))) vNil))))))))) ((vRet (vVar 10))))))))))))) := (vss_cons (vs_asg (vp 3) (vg_tup rfl (vgs_cons (vg_name (i := 4) scLlonged.nd rfl (Or.inl rfl)) (vgs_cons (vg_name (i := 5) scLlonged.nd rfl (Or.inl rfl)) vgs_nil))))
    (vss_cons (vs_if (vt_xeq hu (ve_xix (vp 2) ve_int) ve_str) (vss_one (vs_ret (ve_tup (va_cons ve_str va_nil)))) vss_nil)
    (vss_cons (vs_if (vt_xeq hu (ve_xix (vp 2) ve_int) ve_str) (vss_one (vs_ret (ve_tup (va_cons ve_str (va_cons (ve_call finW_D G_Llonged hr h_Llonged rfl (va_cons (vp 0) (va_cons (vp 1) (va_cons (ve_xix (vp 2) ve_int) (va_cons (vp 3) va_nil))))) (va_cons (ve_call finW_D G_Llonged hr h_Llonged rfl (va_cons (vp 0) (va_cons (vp 1) (va_cons (ve_xix (vp 2) ve_int) (va_cons (vp 3) va_nil))))) va_nil)))))) vss_nil)
    (vss_cons (vs_if (vt_xeq hu (ve_xix (vp 2) ve_int) ve_str) (vss_cons (vs_set (i := 6) scLlonged.nd rfl (Or.inr rfl) (ve_add ve_str (ve_strI rfl B.str (va_cons (vp 4) va_nil))))
      (vss_one (vs_ret (ve_tup (va_cons ve_str (va_cons (vp 6) (va_cons (ve_xix (vp 2) ve_int) (va_cons (ve_call finW_D G_Llonged hr h_Llonged rfl (va_cons (vp 0) (va_cons (ve_add (vp 1) (ve_lst (va_cons (ve_tup (va_cons (vp 6) (va_cons (ve_xix (vp 2) ve_int) va_nil))) va_nil))) (va_cons (ve_xix (vp 2) ve_int) (va_cons (ve_tup (va_cons (ve_add (vp 4) ve_int) (va_cons (vp 5) va_nil))) va_nil))))) va_nil)))))))) vss_nil)
    (vss_cons (vs_set (i := 7) scLlonged.nd rfl (Or.inl rfl) (ve_lst va_nil))
    (vss_cons (vs_forW (vi_list (vp 1)) (vg_tup rfl (vgs_cons (vg_name (i := 6) scLlonged.nd rfl (Or.inr rfl)) (vgs_cons (vg_name (i := 8) scLlonged.nd rfl (Or.inl rfl)) vgs_nil)))
      (vss_one (vs_set (i := 7) scLlonged.nd rfl (Or.inl rfl) (ve_add (vp 7) (ve_lcK (own := [("_law_moves", 9), ("_law_mark", 12)]) finD_ok rfl scLlonged.nd (vi_list (ve_call finW_D G_Lways hr h_Lways rfl (va_cons (vp 8) va_nil))) (blkOk_by (N := nLlonged) (sc := defScope sLlonged) (own := [("_law_moves", 9), ("_law_mark", 12)]) (by decide +kernel)) (by decide) (fun _ _ _ _ _ => (vg_tup rfl (vgs_cons (vg_name (i := 9) scLlonged.nd rfl (Or.inl rfl)) (vgs_cons (vg_name (i := 12) scLlonged.nd rfl (Or.inl rfl)) vgs_nil)))) (fun _ _ _ _ _ => (vts_one (vt_xeq hu (vp 12) (ve_xix (vp 2) ve_int)))) (fun _ _ _ _ _ => (ve_tup (va_cons (vp 6) (va_cons (vp 9) va_nil)))))))) (fun a b c => ps_for PassesOwn.never rfl a b c))
    (vss_cons (vs_if (vt_lt (vp 5) ve_int) (vss_one (vs_setLcK (i := 7) (own := [("_law_one", 8)]) finD_ok rfl scLlonged.nd rfl rfl (sw_true rfl rfl rfl (by decide +kernel)) (vi_list (vp 7)) (blkOk_by (N := nLlonged) (sc := defScope sLlonged) (own := [("_law_one", 8)]) (by decide +kernel)) (by decide) (fun _ _ _ _ _ => (vg_name (i := 8) scLlonged.nd rfl (Or.inl rfl))) (fun _ _ _ _ _ => (vts_one (vt_xeq hu (ve_xix (vp 8) ve_int) (ve_lst va_nil)))) (fun _ _ _ _ _ => (vp 8)))) vss_nil)
    (vss_cons (vs_asg (ve_xix (vp 7) (ve_call finW_D G_Ltake hr h_Ltake rfl (va_cons (vp 0) (va_cons (ve_len rfl B.len (va_cons (vp 7) va_nil)) va_nil)))) (vg_tup rfl (vgs_cons (vg_name (i := 6) scLlonged.nd rfl (Or.inr rfl)) (vgs_cons (vg_name (i := 9) scLlonged.nd rfl (Or.inl rfl)) vgs_nil))))
    (vss_cons (vs_set (i := 10) scLlonged.nd rfl (Or.inl rfl) (ve_tup (va_cons ve_str (va_cons (vp 6) va_nil))))
    (vss_cons (vs_forW (vi_list (vp 9)) (vg_name (i := 11) scLlonged.nd rfl (Or.inl rfl))
      (vss_one (vs_if (VW.vt (vw_or (vt_xeq hu (vp 11) ve_int) (vw_or1 (vt_xeq hu (vp 11) ve_int)))) (vss_one (vs_set (i := 10) scLlonged.nd rfl (Or.inl rfl) (ve_tup (va_cons (ve_xix (ve_lst (va_cons ve_str (va_cons ve_str va_nil))) (ve_sub (vp 11) ve_int)) (va_cons (vp 10) va_nil))))) (vss_one (vs_set (i := 10) scLlonged.nd rfl (Or.inl rfl) (ve_tup (va_cons ve_str (va_cons (vp 10) (va_cons (ve_call finW_D G_Llonged hr h_Llonged rfl (va_cons (vp 0) (va_cons (vp 1) (va_cons (vp 11) (va_cons (ve_tup (va_cons (vp 4) (va_cons (ve_sub (vp 5) ve_int) va_nil))) va_nil))))) va_nil)))))))) (fun a b c => ps_for PassesOwn.never rfl a b c))
    (vss_one (vs_ret (vp 10)))))))))))))
  exact h
theorem ok_Llonged {P : Program} {w : World} {K : PySem.W.Frag} {mg : Str → Option Value} {base : Heap} {k : Nat} {p : VSp} (Fd : Df K mg "_law_longed" sLlonged ["_law_pool_here", "_law_known", "_law_kind_here", "_law_rest"]) {k_Llonged : Nat} {p_Llonged : VSp} (G_Llonged : VFn P w K mg base k_Llonged "_law_longed" ["_law_pool_here", "_law_known", "_law_kind_here", "_law_rest"] p_Llonged) (h_Llonged : k_Llonged ≤ k) {k_Lways : Nat} {p_Lways : VSp} (G_Lways : VFn P w K mg base k_Lways "_law_ways" ["_law_kind_here"] p_Lways) (h_Lways : k_Lways ≤ k) {k_Ltake : Nat} {p_Ltake : VSp} (G_Ltake : VFn P w K mg base k_Ltake "_law_take" ["_law_pool_here", "_law_many"] p_Ltake) (h_Ltake : k_Ltake ≤ k) (B : Blt mg)
    (len : ∀ ss st Kp, p ss st Kp → ss.length = 4) (rd : ∀ ss cs Kp, p ss cs Kp → t_Llonged p_Llonged p_Lways p_Ltake (dV cs.length Kp) ⟨startV 13 ss, cs.map some⟩) : VFn P w K mg base (k + 1) "_law_longed" ["_law_pool_here", "_law_known", "_law_kind_here", "_law_rest"] p :=
  okF Fd scLlonged len (fun hr => bd_Llonged G_Llonged h_Llonged G_Lways h_Lways G_Ltake h_Ltake B hr) rd
abbrev sLislong : Stmt := top 56
abbrev nLislong : List Str := ["_law_known", "_law_kind_here", "_law_program", "_law_takes", "_law_name"]
theorem scLislong : FnScope nLislong ["_law_known", "_law_kind_here", "_law_program", "_law_takes"] (defScope sLislong) := ⟨rfl, rfl, rfl, by decide +kernel, rfl, by decide +kernel, by decide +kernel⟩
theorem bd_Lislong {P : Program} {w : World} {K : PySem.W.Frag} {mg : Str → Option Value} {base : Heap} {k : Nat} {k_Lalong : Nat} {p_Lalong : VSp} (G_Lalong : VFn P w K mg base k_Lalong "_law_along" ["_law_known", "_law_program", "_law_takes"] p_Lalong) (h_Lalong : k_Lalong ≤ k) {k_Lislong : Nat} {p_Lislong : VSp} (G_Lislong : VFn P w K mg base k_Lislong "_law_is_long" ["_law_known", "_law_kind_here", "_law_program", "_law_takes"] p_Lislong) (h_Lislong : k_Lislong ≤ k) (B : Blt mg) {f : Addr} {cdv : Value} {A : Around} {outer : List Env} {s : Shared} {H : Hp} {E : XK}
    (hr : Room k (A.deeper (envOfC "_law_is_long" (defScope sLislong) s.heap.objs.size f cdv))) : VSs (cxOf CX0 P w K mg base nLislong "_law_is_long" (defScope sLislong) f cdv A outer s H E).nox (defBody sLislong) (t_Lislong p_Lalong p_Lislong) := by
  have hu := u190 hr
  have h : VSs (cxOf CX0 P w K mg base nLislong "_law_is_long" (defScope sLislong) f cdv A outer s H E).nox (defBody sLislong) (vSeq (vIfS (vTest (v2 (xEq false) (v2 xIx (vVar 1) (vC (.int 0))) (vC (.str "one")))) ((vRet (v2 (xEq false) (vVar 2) (vN opTup (vCons (vC (.str "thing")) vNil))))) vNext) (vSeq (vIfS (vTest (v2 (xEq false) (v2 xIx (vVar 1) (vC (.int 0))) (vC (.str "mark")))) ((vRet (v2 (xEq false) (vN (opCallK ownD p_Lalong) (vCons (vVar 0) (vCons (vVar 2) (vCons (vVar 3) vNil)))) (vVar 1)))) vNext) (vSeq (vIfS (vTest (v2 (xEq false) (v2 xIx (vVar 1) (vC (.int 0))) (vC (.str "both")))) (vSeq (vIfS (vOrT (vTest (v2 (xEq true) (v2 xIx (vVar 2) (vC (.int 0))) (vC (.str "pair")))) (vNotT (vTruth (vN (opCallK ownD p_Lislong) (vCons (vVar 0) (vCons (v2 xIx (vVar 1) (vC (.int 1))) (vCons (v2 xIx (vVar 2) (vC (.int 1))) (vCons (vVar 3) vNil)))))))) ((vRet (vC (.bool false)))) vNext) ((vRet (vN (opCallK ownD p_Lislong) (vCons (vVar 0) (vCons (v2 xIx (vVar 1) (vC (.int 2))) (vCons (v2 xIx (vVar 2) (vC (.int 2))) (vCons (vVar 3) vNil)))))))) vNext) (vSeq (vSet 4 (v2 opAdd (vC (.str "x")) (vN opStr (vCons (vVar 3) vNil)))) (vSeq (vIfS (vTest (v2 (xEq true) (vSl opSl (vVar 2) vNoPart (vPart (vC (.int 3)))) (vN opTup (vCons (vC (.str "take")) (vCons (vVar 4) (vCons (v2 xIx (vVar 1) (vC (.int 1))) vNil)))))) ((vRet (vC (.bool false)))) vNext) ((vRet (vN (opCallK ownD p_Lislong) (vCons (v2 opAdd (vVar 0) (vN opLst (vCons (vN opTup (vCons (vVar 4) (vCons (v2 xIx (vVar 1) (vC (.int 1))) vNil))) vNil))) (vCons (v2 xIx (vVar 1) (vC (.int 2))) (vCons (v2 xIx (vVar 2) (vC (.int 3))) (vCons (v2 opAdd (vVar 3) (vC (.int 1))) vNil)))))))))))) := (vss_cons (vs_if (vt_xeq hu (ve_xix (vp 1) ve_int) ve_str) (vss_one (vs_ret (ve_xeq hu (vp 2) (ve_tup (va_cons ve_str va_nil))))) vss_nil)
    (vss_cons (vs_if (vt_xeq hu (ve_xix (vp 1) ve_int) ve_str) (vss_one (vs_ret (ve_xeq hu (ve_call finW_D G_Lalong hr h_Lalong rfl (va_cons (vp 0) (va_cons (vp 2) (va_cons (vp 3) va_nil)))) (vp 1)))) vss_nil)
    (vss_cons (vs_if (vt_xeq hu (ve_xix (vp 1) ve_int) ve_str) (vss_cons (vs_if (VW.vt (vw_or (vt_xne hu (ve_xix (vp 2) ve_int) ve_str) (vw_or1 (vt_not (vt_truth (ve_call finW_D G_Lislong hr h_Lislong rfl (va_cons (vp 0) (va_cons (ve_xix (vp 1) ve_int) (va_cons (ve_xix (vp 2) ve_int) (va_cons (vp 3) va_nil)))))))))) (vss_one (vs_ret ve_bl)) vss_nil)
      (vss_one (vs_ret (ve_call finW_D G_Lislong hr h_Lislong rfl (va_cons (vp 0) (va_cons (ve_xix (vp 1) ve_int) (va_cons (ve_xix (vp 2) ve_int) (va_cons (vp 3) va_nil)))))))) vss_nil)
    (vss_cons (vs_set (i := 4) scLislong.nd rfl (Or.inl rfl) (ve_add ve_str (ve_strI rfl B.str (va_cons (vp 3) va_nil))))
    (vss_cons (vs_if (vt_xne hu (ve_slice (vp 2) vo_none (vo_some ve_int)) (ve_tup (va_cons ve_str (va_cons (vp 4) (va_cons (ve_xix (vp 1) ve_int) va_nil))))) (vss_one (vs_ret ve_bl)) vss_nil)
    (vss_one (vs_ret (ve_call finW_D G_Lislong hr h_Lislong rfl (va_cons (ve_add (vp 0) (ve_lst (va_cons (ve_tup (va_cons (vp 4) (va_cons (ve_xix (vp 1) ve_int) va_nil))) va_nil))) (va_cons (ve_xix (vp 1) ve_int) (va_cons (ve_xix (vp 2) ve_int) (va_cons (ve_add (vp 3) ve_int) va_nil))))))))))))
  exact h
theorem ok_Lislong {P : Program} {w : World} {K : PySem.W.Frag} {mg : Str → Option Value} {base : Heap} {k : Nat} {p : VSp} (Fd : Df K mg "_law_is_long" sLislong ["_law_known", "_law_kind_here", "_law_program", "_law_takes"]) {k_Lalong : Nat} {p_Lalong : VSp} (G_Lalong : VFn P w K mg base k_Lalong "_law_along" ["_law_known", "_law_program", "_law_takes"] p_Lalong) (h_Lalong : k_Lalong ≤ k) {k_Lislong : Nat} {p_Lislong : VSp} (G_Lislong : VFn P w K mg base k_Lislong "_law_is_long" ["_law_known", "_law_kind_here", "_law_program", "_law_takes"] p_Lislong) (h_Lislong : k_Lislong ≤ k) (B : Blt mg)
    (len : ∀ ss st Kp, p ss st Kp → ss.length = 4) (rd : ∀ ss cs Kp, p ss cs Kp → t_Lislong p_Lalong p_Lislong (dV cs.length Kp) ⟨startV 5 ss, cs.map some⟩) : VFn P w K mg base (k + 1) "_law_is_long" ["_law_known", "_law_kind_here", "_law_program", "_law_takes"] p :=
  okF Fd scLislong len (fun hr => bd_Lislong G_Lalong h_Lalong G_Lislong h_Lislong B hr) rd
abbrev sLalong : Stmt := top 57
abbrev nLalong : List Str := ["_law_known", "_law_program", "_law_takes", "_law_kind_here", "_law_name"]
theorem scLalong : FnScope nLalong ["_law_known", "_law_program", "_law_takes"] (defScope sLalong) := ⟨rfl, rfl, rfl, by decide +kernel, rfl, by decide +kernel, by decide +kernel⟩
theorem bd_Lalong {P : Program} {w : World} {K : PySem.W.Frag} {mg : Str → Option Value} {base : Heap} {k : Nat} {k_Lalong : Nat} {p_Lalong : VSp} (G_Lalong : VFn P w K mg base k_Lalong "_law_along" ["_law_known", "_law_program", "_law_takes"] p_Lalong) (h_Lalong : k_Lalong ≤ k) {k_Lislong : Nat} {p_Lislong : VSp} (G_Lislong : VFn P w K mg base k_Lislong "_law_is_long" ["_law_known", "_law_kind_here", "_law_program", "_law_takes"] p_Lislong) (h_Lislong : k_Lislong ≤ k) {f : Addr} {cdv : Value} {A : Around} {outer : List Env} {s : Shared} {H : Hp} {E : XK}
    (hr : Room k (A.deeper (envOfC "_law_along" (defScope sLalong) s.heap.objs.size f cdv))) : VSs (cxOf CX0 P w K mg base nLalong "_law_along" (defScope sLalong) f cdv A outer s H E).nox (defBody sLalong) (t_Lalong p_Lalong p_Lislong) := by
  have hu := u190 hr
  have h : VSs (cxOf CX0 P w K mg base nLalong "_law_along" (defScope sLalong) f cdv A outer s H E).nox (defBody sLalong) (vSeq (vIfS (vTest (v2 (xEq false) (v2 xIx (vVar 1) (vC (.int 0))) (vC (.str "name")))) ((vRet (v2 xIx (vOrG (vLcK (vSeqI (vVar 0)) (vgTup 2 (vgCons (vgName 4) (vgCons (vgName 3) vgNil))) (vTest (v2 (xEq false) (vVar 4) (v2 xIx (vVar 1) (vC (.int 1))))) (vVar 3) [4, 3] finD) (vN opLst (vCons (vN opTup (vCons (vC (.str "none")) vNil)) vNil))) (v1 opNeg (vC (.int 1)))))) vNext) (vSeq (vIfS (vTest (v2 (xIn true) (v2 xIx (vVar 1) (vC (.int 0))) (vN opLst (vCons (vC (.str "first")) (vCons (vC (.str "second")) (vCons (vC (.str "give")) vNil)))))) ((vRet (vN opTup (vCons (vC (.str "none")) vNil)))) vNext) (vSeq (vSet 3 (vN (opCallK ownD p_Lalong) (vCons (vVar 0) (vCons (v2 xIx (vVar 1) (vC (.int 1))) (vCons (vVar 2) vNil))))) (vSeq (vIfS (vAndT (vTest (v2 (xEq false) (v2 xIx (vVar 1) (vC (.int 0))) (vC (.str "give")))) (vAndT (vTest (v2 (xEq false) (v2 xIx (vVar 3) (vC (.int 0))) (vC (.str "to")))) (vTruth (vN (opCallK ownD p_Lislong) (vCons (vVar 0) (vCons (v2 xIx (vVar 3) (vC (.int 1))) (vCons (v2 xIx (vVar 1) (vC (.int 2))) (vCons (vVar 2) vNil)))))))) ((vRet (v2 xIx (vVar 3) (vC (.int 2))))) vNext) (vSeq (vIfS (vAndT (vTest (v2 (xEq true) (v2 xIx (vVar 1) (vC (.int 0))) (vC (.str "give")))) (vTest (v2 (xEq false) (v2 xIx (vVar 3) (vC (.int 0))) (vC (.str "both"))))) ((vRet (v2 xIx (vVar 3) (v2 opAdd (vM "list" opIndex (vN opLst (vCons (vC (.str "first")) (vCons (vC (.str "second")) vNil))) (vCons (v2 xIx (vVar 1) (vC (.int 0))) vNil)) (vC (.int 1)))))) vNext) ((vRet (vN opTup (vCons (vC (.str "none")) vNil))))))))) := (vss_cons (vs_if (vt_xeq hu (ve_xix (vp 1) ve_int) ve_str) (vss_one (vs_ret (ve_xix (ve_orG (ve_lcK (own := [("_law_name", 4), ("_law_kind_here", 3)]) finD_ok rfl scLalong.nd (vi_list (vp 0)) (blkOk_by (N := nLalong) (sc := defScope sLalong) (own := [("_law_name", 4), ("_law_kind_here", 3)]) (by decide +kernel)) (by decide) (fun _ _ _ _ _ => (vg_tup rfl (vgs_cons (vg_name (i := 4) scLalong.nd rfl (Or.inl rfl)) (vgs_cons (vg_name (i := 3) scLalong.nd rfl (Or.inl rfl)) vgs_nil)))) (fun _ _ _ _ _ => (vts_one (vt_xeq hu (vp 4) (ve_xix (vp 1) ve_int)))) (fun _ _ _ _ _ => (vp 3))) (ve_one (ve_lst (va_cons (ve_tup (va_cons ve_str va_nil)) va_nil)))) (ve_neg ve_int)))) vss_nil)
    (vss_cons (vs_if (vt_xnotIn hu (ve_xix (vp 1) ve_int) (ve_lst (va_cons ve_str (va_cons ve_str (va_cons ve_str va_nil))))) (vss_one (vs_ret (ve_tup (va_cons ve_str va_nil)))) vss_nil)
    (vss_cons (vs_set (i := 3) scLalong.nd rfl (Or.inl rfl) (ve_call finW_D G_Lalong hr h_Lalong rfl (va_cons (vp 0) (va_cons (ve_xix (vp 1) ve_int) (va_cons (vp 2) va_nil)))))
    (vss_cons (vs_if (VW.vt (vw_and (vt_xeq hu (ve_xix (vp 1) ve_int) ve_str) (vw_and (vt_xeq hu (ve_xix (vp 3) ve_int) ve_str) (vw_and1 (vt_truth (ve_call finW_D G_Lislong hr h_Lislong rfl (va_cons (vp 0) (va_cons (ve_xix (vp 3) ve_int) (va_cons (ve_xix (vp 1) ve_int) (va_cons (vp 2) va_nil)))))))))) (vss_one (vs_ret (ve_xix (vp 3) ve_int))) vss_nil)
    (vss_cons (vs_if (VW.vt (vw_and (vt_xne hu (ve_xix (vp 1) ve_int) ve_str) (vw_and1 (vt_xeq hu (ve_xix (vp 3) ve_int) ve_str)))) (vss_one (vs_ret (ve_xix (vp 3) (ve_add (ve_m p_index PySem.F.plainAttrs_list PySem.F.slot_list_index PySem.F.type_list_index (mt_indexD (Nat.lt_of_le_of_lt (Nat.add_le_add_left (show 65 ≤ 190 by decide) _) hu)) (ve_lst (va_cons ve_str (va_cons ve_str va_nil))) (va_cons (ve_xix (vp 1) ve_int) va_nil)) ve_int)))) vss_nil)
    (vss_one (vs_ret (ve_tup (va_cons ve_str va_nil)))))))))
  exact h
theorem ok_Lalong {P : Program} {w : World} {K : PySem.W.Frag} {mg : Str → Option Value} {base : Heap} {k : Nat} {p : VSp} (Fd : Df K mg "_law_along" sLalong ["_law_known", "_law_program", "_law_takes"]) {k_Lalong : Nat} {p_Lalong : VSp} (G_Lalong : VFn P w K mg base k_Lalong "_law_along" ["_law_known", "_law_program", "_law_takes"] p_Lalong) (h_Lalong : k_Lalong ≤ k) {k_Lislong : Nat} {p_Lislong : VSp} (G_Lislong : VFn P w K mg base k_Lislong "_law_is_long" ["_law_known", "_law_kind_here", "_law_program", "_law_takes"] p_Lislong) (h_Lislong : k_Lislong ≤ k)
    (len : ∀ ss st Kp, p ss st Kp → ss.length = 3) (rd : ∀ ss cs Kp, p ss cs Kp → t_Lalong p_Lalong p_Lislong (dV cs.length Kp) ⟨startV 5 ss, cs.map some⟩) : VFn P w K mg base (k + 1) "_law_along" ["_law_known", "_law_program", "_law_takes"] p :=
  okF Fd scLalong len (fun hr => bd_Lalong G_Lalong h_Lalong G_Lislong h_Lislong hr) rd
abbrev sLrowv8 : Stmt := top 58
abbrev nLrowv8 : List Str := ["_law_pool_here", "_law_row_here", "_law_leaves", "_law_name", "_law_one"]
theorem scLrowv8 : FnScope nLrowv8 ["_law_pool_here"] (defScope sLrowv8) := ⟨rfl, rfl, rfl, by decide +kernel, rfl, by decide +kernel, by decide +kernel⟩
theorem bd_Lrowv8 {P : Program} {w : World} {K : PySem.W.Frag} {mg : Str → Option Value} {base : Heap} {k : Nat} {k_Ltake : Nat} {p_Ltake : VSp} (G_Ltake : VFn P w K mg base k_Ltake "_law_take" ["_law_pool_here", "_law_many"] p_Ltake) (h_Ltake : k_Ltake ≤ k) {k_Lkind : Nat} {p_Lkind : VSp} (G_Lkind : VFn P w K mg base k_Lkind "_law_kind" ["_law_pool_here", "_law_leaves", "_law_marks"] p_Lkind) (h_Lkind : k_Lkind ≤ k) {f : Addr} {cdv : Value} {A : Around} {outer : List Env} {s : Shared} {H : Hp} {E : XK}
    (hr : Room k (A.deeper (envOfC "_law_row" (defScope sLrowv8) s.heap.objs.size f cdv))) : VSs (cxOf CX0 P w K mg base nLrowv8 "_law_row" (defScope sLrowv8) f cdv A outer s H E).nox (defBody sLrowv8) (t_Lrowv8 p_Ltake p_Lkind) := by
  have h : VSs (cxOf CX0 P w K mg base nLrowv8 "_law_row" (defScope sLrowv8) f cdv A outer s H E).nox (defBody sLrowv8) (vSeq (vSet 1 (vN opLstO (vCons (vN opTup (vCons (vC (.str "p")) (vCons (vN opTup (vCons (vC (.str "mark")) (vCons (vC (.str "a")) vNil))) vNil))) (vCons (vN opTup (vCons (vC (.str "q")) (vCons (vN opTup (vCons (vC (.str "mark")) (vCons (vC (.str "b")) vNil))) vNil))) vNil)))) (vSeq (vSet 2 (vC (.int 2))) (vSeq (vForW (vSeqI (vSl opSl (vN opLst (vCons (vC (.str "f")) (vCons (vC (.str "g")) vNil))) vNoPart (vPart (vN (opCallK ownD p_Ltake) (vCons (vVar 0) (vCons (vC (.int 3)) vNil)))))) (vgName 3)
      (vSeq (vSet 4 (v2 opAdd (vC (.int 1)) (vN (opCallK ownD p_Ltake) (vCons (vVar 0) (vCons (vC (.int 4)) vNil))))) ((vIfS (vTest (v2 opLt (v2 opAdd (vVar 2) (vVar 4)) (vC (.int 8)))) (vSeq (vSet 2 (v2 opAdd (vVar 2) (vVar 4))) ((vDrop (vM "list" opAppend (vVar 1) (vCons (vN opTup (vCons (vVar 3) (vCons (vN (opCallK ownD p_Lkind) (vCons (vVar 0) (vCons (vVar 4) (vCons (vN opLst (vCons (vC (.str "a")) (vCons (vC (.str "b")) vNil))) vNil)))) vNil))) vNil))))) vNext)))) ((vRet (vVar 1)))))) := (vss_cons (vs_set (i := 1) scLrowv8.nd rfl (Or.inl rfl) (ve_lstO (va_cons (ve_tup (va_cons ve_str (va_cons (ve_tup (va_cons ve_str (va_cons ve_str va_nil))) va_nil))) (va_cons (ve_tup (va_cons ve_str (va_cons (ve_tup (va_cons ve_str (va_cons ve_str va_nil))) va_nil))) va_nil))))
    (vss_cons (vs_set (i := 2) scLrowv8.nd rfl (Or.inl rfl) ve_int)
    (vss_cons (vs_forW (vi_list (ve_slice (ve_lst (va_cons ve_str (va_cons ve_str va_nil))) vo_none (vo_some (ve_call finW_D G_Ltake hr h_Ltake rfl (va_cons (vp 0) (va_cons ve_int va_nil)))))) (vg_name (i := 3) scLrowv8.nd rfl (Or.inl rfl))
      (vss_cons (vs_set (i := 4) scLrowv8.nd rfl (Or.inl rfl) (ve_add ve_int (ve_call finW_D G_Ltake hr h_Ltake rfl (va_cons (vp 0) (va_cons ve_int va_nil)))))
      (vss_one (vs_if (vt_lt (ve_add (vp 2) (vp 4)) ve_int) (vss_cons (vs_set (i := 2) scLrowv8.nd rfl (Or.inl rfl) (ve_add (vp 2) (vp 4)))
        (vss_one (vs_expr (ve_append (vp 1) (va_cons (ve_tup (va_cons (vp 3) (va_cons (ve_call finW_D G_Lkind hr h_Lkind rfl (va_cons (vp 0) (va_cons (vp 4) (va_cons (ve_lst (va_cons ve_str (va_cons ve_str va_nil))) va_nil)))) va_nil))) va_nil))))) vss_nil))) (fun a b c => ps_for PassesOwn.never rfl a b c))
    (vss_one (vs_ret (vp 1))))))
  exact h
theorem ok_Lrowv8 {P : Program} {w : World} {K : PySem.W.Frag} {mg : Str → Option Value} {base : Heap} {k : Nat} {p : VSp} (Fd : Df K mg "_law_row" sLrowv8 ["_law_pool_here"]) {k_Ltake : Nat} {p_Ltake : VSp} (G_Ltake : VFn P w K mg base k_Ltake "_law_take" ["_law_pool_here", "_law_many"] p_Ltake) (h_Ltake : k_Ltake ≤ k) {k_Lkind : Nat} {p_Lkind : VSp} (G_Lkind : VFn P w K mg base k_Lkind "_law_kind" ["_law_pool_here", "_law_leaves", "_law_marks"] p_Lkind) (h_Lkind : k_Lkind ≤ k)
    (len : ∀ ss st Kp, p ss st Kp → ss.length = 1) (rd : ∀ ss cs Kp, p ss cs Kp → t_Lrowv8 p_Ltake p_Lkind (dV cs.length Kp) ⟨startV 5 ss, cs.map some⟩) : VFn P w K mg base (k + 1) "_law_row" ["_law_pool_here"] p :=
  okF Fd scLrowv8 len (fun hr => bd_Lrowv8 G_Ltake h_Ltake G_Lkind h_Lkind hr) rd
abbrev sLfit : Stmt := top 60
abbrev nLfit : List Str := ["_law_moves", "_law_told_here", "_law_words", "_law_move", "_law_one"]
theorem scLfit : FnScope nLfit ["_law_moves", "_law_told_here"] (defScope sLfit) := ⟨rfl, rfl, rfl, by decide +kernel, rfl, by decide +kernel, by decide +kernel⟩
theorem bd_Lfit {P : Program} {w : World} {K : PySem.W.Frag} {mg : Str → Option Value} {base : Heap} {k : Nat} (B : Blt mg) {f : Addr} {cdv : Value} {A : Around} {outer : List Env} {s : Shared} {H : Hp} {E : XK}
    (hr : Room k (A.deeper (envOfC "_law_fit" (defScope sLfit) s.heap.objs.size f cdv))) : VSs (cxOf CX0 P w K mg base nLfit "_law_fit" (defScope sLfit) f cdv A outer s H E).nox (defBody sLfit) (t_Lfit) := by
  have hu := u190 hr
  have h : VSs (cxOf CX0 P w K mg base nLfit "_law_fit" (defScope sLfit) f cdv A outer s H E).nox (defBody sLfit) (vSeq (vSet 2 (vLcK (vSeqI (vVar 0)) (vgName 3) vYes (vIfE (vTest (vIsi "int" (vVar 3))) (v2 xIx (vN opLst (vCons (vC (.str "first")) (vCons (vC (.str "second")) vNil))) (v2 opSub (vVar 3) (vC (.int 1)))) (vC (.str "give"))) [3] finD)) ((vRet (v2 (xEq false) (vVar 2) (vLcK (vSeqI (vVar 1)) (vgName 4) vYes (v2 xIx (vVar 4) (vC (.int 0))) [4] finD))))) := (vss_cons (vs_setLcK (i := 2) (own := [("_law_move", 3)]) finD_ok rfl scLfit.nd rfl rfl (sw_true rfl rfl rfl (by decide +kernel)) (vi_list (vp 0)) (blkOk_by (N := nLfit) (sc := defScope sLfit) (own := [("_law_move", 3)]) (by decide +kernel)) (by decide) (fun _ _ _ _ _ => (vg_name (i := 3) scLfit.nd rfl (Or.inl rfl))) (fun _ _ _ _ _ => vts_nil) (fun _ _ _ _ _ => (ve_ifExp (vt_val (ve_isi (T := "int") (by decide) rfl B.isinstance rfl B.int (by decide +kernel) (vp 3))) (ve_xix (ve_lst (va_cons ve_str (va_cons ve_str va_nil))) (ve_sub (vp 3) ve_int)) ve_str)))
    (vss_one (vs_ret (ve_xeq hu (vp 2) (ve_lcK (own := [("_law_one", 4)]) finD_ok rfl scLfit.nd (vi_list (vp 1)) (blkOk_by (N := nLfit) (sc := defScope sLfit) (own := [("_law_one", 4)]) (by decide +kernel)) (by decide) (fun _ _ _ _ _ => (vg_name (i := 4) scLfit.nd rfl (Or.inl rfl))) (fun _ _ _ _ _ => vts_nil) (fun _ _ _ _ _ => (ve_xix (vp 4) ve_int)))))))
  exact h
theorem ok_Lfit {P : Program} {w : World} {K : PySem.W.Frag} {mg : Str → Option Value} {base : Heap} {k : Nat} {p : VSp} (Fd : Df K mg "_law_fit" sLfit ["_law_moves", "_law_told_here"]) (B : Blt mg)
    (len : ∀ ss st Kp, p ss st Kp → ss.length = 2) (rd : ∀ ss cs Kp, p ss cs Kp → t_Lfit (dV cs.length Kp) ⟨startV 5 ss, cs.map some⟩) : VFn P w K mg base (k + 1) "_law_fit" ["_law_moves", "_law_told_here"] p :=
  okF Fd scLfit len (fun hr => bd_Lfit B hr) rd
abbrev sLspelt : Stmt := top 59
abbrev nLspelt : List Str := ["_law_known", "_law_kind_here", "_law_program", "_law_told_here", "_law_one", "_law_at", "_law_ways_here", "_law_some", "_law_found", "_law_move", "_law_k", "_law_name"]
theorem scLspelt : FnScope nLspelt ["_law_known", "_law_kind_here", "_law_program"] (defScope sLspelt) := ⟨rfl, rfl, rfl, by decide +kernel, rfl, by decide +kernel, by decide +kernel⟩
theorem bd_Lspelt {P : Program} {w : World} {K : PySem.W.Frag} {mg : Str → Option Value} {base : Heap} {k : Nat} {k_Lspelt : Nat} {p_Lspelt : VSp} (G_Lspelt : VFn P w K mg base k_Lspelt "_law_spelt" ["_law_known", "_law_kind_here", "_law_program"] p_Lspelt) (h_Lspelt : k_Lspelt ≤ k) {k_Lways : Nat} {p_Lways : VSp} (G_Lways : VFn P w K mg base k_Lways "_law_ways" ["_law_kind_here"] p_Lways) (h_Lways : k_Lways ≤ k) {k_Lfit : Nat} {p_Lfit : VSp} (G_Lfit : VFn P w K mg base k_Lfit "_law_fit" ["_law_moves", "_law_told_here"] p_Lfit) (h_Lfit : k_Lfit ≤ k) (B : Blt mg) {f : Addr} {cdv : Value} {A : Around} {outer : List Env} {s : Shared} {H : Hp} {E : XK}
    (hr : Room k (A.deeper (envOfC "_law_spelt" (defScope sLspelt) s.heap.objs.size f cdv))) : VSs (cxOf CX0 P w K mg base nLspelt "_law_spelt" (defScope sLspelt) f cdv A outer s H E).nox (defBody sLspelt) (t_Lspelt p_Lspelt p_Lways p_Lfit) := by
  have hu := u190 hr
  have h : VSs (cxOf CX0 P w K mg base nLspelt "_law_spelt" (defScope sLspelt) f cdv A outer s H E).nox (defBody sLspelt) (vSeq (vIfS (vTest (v2 (xEq false) (v2 xIx (vVar 1) (vC (.int 0))) (vC (.str "one")))) ((vRet (vN opLst vNil))) vNext) (vSeq (vIfS (vTest (v2 (xEq false) (v2 xIx (vVar 1) (vC (.int 0))) (vC (.str "both")))) ((vRet (v2 opAdd (vN (opCallK ownD p_Lspelt) (vCons (vVar 0) (vCons (v2 xIx (vVar 1) (vC (.int 1))) (vCons (v2 xIx (vVar 2) (vC (.int 1))) vNil)))) (vN (opCallK ownD p_Lspelt) (vCons (vVar 0) (vCons (v2 xIx (vVar 1) (vC (.int 2))) (vCons (v2 xIx (vVar 2) (vC (.int 2))) vNil))))))) vNext) (vSeq (vIfS (vTest (v2 (xEq false) (v2 xIx (vVar 1) (vC (.int 0))) (vC (.str "to")))) ((vRet (vN (opCallK ownD p_Lspelt) (vCons (v2 opAdd (vVar 0) (vN opLst (vCons (vN opTup (vCons (v2 xIx (vVar 2) (vC (.int 1))) (vCons (v2 xIx (vVar 1) (vC (.int 1))) vNil))) vNil))) (vCons (v2 xIx (vVar 1) (vC (.int 2))) (vCons (v2 xIx (vVar 2) (vC (.int 3))) vNil)))))) vNext) (vSeq (vSet 3 (vN opLst vNil)) (vSeq (vWhileW (vTest (v2 (xEq true) (v2 xIx (vVar 2) (vC (.int 0))) (vC (.str "name"))))
      (vSeq (vSet 3 (v2 opAdd (vN opLst (vCons (vVar 2) vNil)) (vVar 3))) ((vSet 2 (v2 xIx (vVar 2) (vC (.int 1))))))) (vSeq (vSet 5 (vM "list" opIndex (vLcK (vSeqI (vVar 0)) (vgTup 2 (vgCons (vgName 11) (vgCons (vgName 4) vgNil))) vYes (vVar 11) [11, 4] finD) (vCons (v2 xIx (vVar 2) (vC (.int 1))) vNil))) (vSeq (vSet 6 (vN (opCallK ownD p_Lways) (vCons (v2 xIx (v2 xIx (vVar 0) (vVar 5)) (vC (.int 1))) vNil))) (vSeq (vSet 7 (vLcK (vRng1 (vCons (vN opLen (vCons (vVar 6) vNil)) vNil)) (vgName 10) (vAndT (vTest (v2 (xEq false) (v2 xIx (v2 xIx (vVar 6) (vVar 10)) (vC (.int 1))) (v2 xIx (vVar 1) (vC (.int 1))))) (vTruth (vN (opCallK ownD p_Lfit) (vCons (v2 xIx (v2 xIx (vVar 6) (vVar 10)) (vC (.int 0))) (vCons (vVar 3) vNil))))) (vVar 10) [10] finD)) (vSeq (vSet 8 (vN opLst (vCons (vN opTup (vCons (vVar 5) (vCons (v2 xIx (vVar 7) (vC (.int 0))) vNil))) vNil))) (vSeq (vForW (vZip (vCons (v2 xIx (v2 xIx (vVar 6) (v2 xIx (vVar 7) (vC (.int 0)))) (vC (.int 0))) (vCons (vVar 3) vNil))) (vgTup 2 (vgCons (vgName 9) (vgCons (vgName 4) vgNil)))
      ((vIfS (vTest (vIsi "tuple" (vVar 9))) ((vSet 8 (v2 opAdd (vVar 8) (vN (opCallK ownD p_Lspelt) (vCons (vVar 0) (vCons (vVar 9) (vCons (v2 xIx (vVar 4) (vC (.int 2))) vNil))))))) vNext))) ((vRet (vVar 8))))))))))))) := (vss_cons (vs_if (vt_xeq hu (ve_xix (vp 1) ve_int) ve_str) (vss_one (vs_ret (ve_lst va_nil))) vss_nil)
    (vss_cons (vs_if (vt_xeq hu (ve_xix (vp 1) ve_int) ve_str) (vss_one (vs_ret (ve_add (ve_call finW_D G_Lspelt hr h_Lspelt rfl (va_cons (vp 0) (va_cons (ve_xix (vp 1) ve_int) (va_cons (ve_xix (vp 2) ve_int) va_nil)))) (ve_call finW_D G_Lspelt hr h_Lspelt rfl (va_cons (vp 0) (va_cons (ve_xix (vp 1) ve_int) (va_cons (ve_xix (vp 2) ve_int) va_nil))))))) vss_nil)
    (vss_cons (vs_if (vt_xeq hu (ve_xix (vp 1) ve_int) ve_str) (vss_one (vs_ret (ve_call finW_D G_Lspelt hr h_Lspelt rfl (va_cons (ve_add (vp 0) (ve_lst (va_cons (ve_tup (va_cons (ve_xix (vp 2) ve_int) (va_cons (ve_xix (vp 1) ve_int) va_nil))) va_nil))) (va_cons (ve_xix (vp 1) ve_int) (va_cons (ve_xix (vp 2) ve_int) va_nil)))))) vss_nil)
    (vss_cons (vs_set (i := 3) scLspelt.nd rfl (Or.inr rfl) (ve_lst va_nil))
    (vss_cons (vs_whileW PassesOwn.never (vt_xne hu (ve_xix (vp 2) ve_int) ve_str)
      (vss_cons (vs_set (i := 3) scLspelt.nd rfl (Or.inr rfl) (ve_add (ve_lst (va_cons (vp 2) va_nil)) (vp 3)))
      (vss_one (vs_set (i := 2) scLspelt.nd rfl (Or.inl rfl) (ve_xix (vp 2) ve_int)))))
    (vss_cons (vs_set (i := 5) scLspelt.nd rfl (Or.inl rfl) (ve_m p_index PySem.F.plainAttrs_list PySem.F.slot_list_index PySem.F.type_list_index (mt_indexD (Nat.lt_of_le_of_lt (Nat.add_le_add_left (show 65 ≤ 190 by decide) _) hu)) (ve_lcK (own := [("_law_name", 11), ("_law_one", 4)]) finD_ok rfl scLspelt.nd (vi_list (vp 0)) (blkOk_by (N := nLspelt) (sc := defScope sLspelt) (own := [("_law_name", 11), ("_law_one", 4)]) (by decide +kernel)) (by decide) (fun _ _ _ _ _ => (vg_tup rfl (vgs_cons (vg_name (i := 11) scLspelt.nd rfl (Or.inl rfl)) (vgs_cons (vg_name (i := 4) scLspelt.nd rfl (Or.inl rfl)) vgs_nil)))) (fun _ _ _ _ _ => vts_nil) (fun _ _ _ _ _ => (vp 11))) (va_cons (ve_xix (vp 2) ve_int) va_nil)))
    (vss_cons (vs_set (i := 6) scLspelt.nd rfl (Or.inr rfl) (ve_call finW_D G_Lways hr h_Lways rfl (va_cons (ve_xix (ve_xix (vp 0) (vp 5)) ve_int) va_nil)))
    (vss_cons (vs_setLcK (i := 7) (own := [("_law_k", 10)]) finD_ok rfl scLspelt.nd rfl rfl (sw_true rfl rfl rfl (by decide +kernel)) (vi_range1 rfl B.range (va_cons (ve_len rfl B.len (va_cons (vp 6) va_nil)) va_nil)) (blkOk_by (N := nLspelt) (sc := defScope sLspelt) (own := [("_law_k", 10)]) (by decide +kernel)) (by decide) (fun _ _ _ _ _ => (vg_name (i := 10) scLspelt.nd rfl (Or.inl rfl))) (fun _ _ _ _ _ => (vts_one (VW.vt (vw_and (vt_xeq hu (ve_xix (ve_xix (vp 6) (vp 10)) ve_int) (ve_xix (vp 1) ve_int)) (vw_and1 (vt_truth (ve_call finW_D G_Lfit hr h_Lfit rfl (va_cons (ve_xix (ve_xix (vp 6) (vp 10)) ve_int) (va_cons (vp 3) va_nil))))))))) (fun _ _ _ _ _ => (vp 10)))
    (vss_cons (vs_set (i := 8) scLspelt.nd rfl (Or.inl rfl) (ve_lst (va_cons (ve_tup (va_cons (vp 5) (va_cons (ve_xix (vp 7) ve_int) va_nil))) va_nil)))
    (vss_cons (vs_forW (vi_zip rfl B.zip (va_cons (ve_xix (ve_xix (vp 6) (ve_xix (vp 7) ve_int)) ve_int) (va_cons (vp 3) va_nil))) (vg_tup rfl (vgs_cons (vg_name (i := 9) scLspelt.nd rfl (Or.inl rfl)) (vgs_cons (vg_name (i := 4) scLspelt.nd rfl (Or.inl rfl)) vgs_nil)))
      (vss_one (vs_if (vt_val (ve_isi (T := "tuple") (by decide) rfl B.isinstance rfl B.tuple (by decide +kernel) (vp 9))) (vss_one (vs_set (i := 8) scLspelt.nd rfl (Or.inl rfl) (ve_add (vp 8) (ve_call finW_D G_Lspelt hr h_Lspelt rfl (va_cons (vp 0) (va_cons (vp 9) (va_cons (ve_xix (vp 4) ve_int) va_nil))))))) vss_nil)) (fun a b c => ps_for PassesOwn.never rfl a b c))
    (vss_one (vs_ret (vp 8)))))))))))))
  exact h
theorem ok_Lspelt {P : Program} {w : World} {K : PySem.W.Frag} {mg : Str → Option Value} {base : Heap} {k : Nat} {p : VSp} (Fd : Df K mg "_law_spelt" sLspelt ["_law_known", "_law_kind_here", "_law_program"]) {k_Lspelt : Nat} {p_Lspelt : VSp} (G_Lspelt : VFn P w K mg base k_Lspelt "_law_spelt" ["_law_known", "_law_kind_here", "_law_program"] p_Lspelt) (h_Lspelt : k_Lspelt ≤ k) {k_Lways : Nat} {p_Lways : VSp} (G_Lways : VFn P w K mg base k_Lways "_law_ways" ["_law_kind_here"] p_Lways) (h_Lways : k_Lways ≤ k) {k_Lfit : Nat} {p_Lfit : VSp} (G_Lfit : VFn P w K mg base k_Lfit "_law_fit" ["_law_moves", "_law_told_here"] p_Lfit) (h_Lfit : k_Lfit ≤ k) (B : Blt mg)
    (len : ∀ ss st Kp, p ss st Kp → ss.length = 3) (rd : ∀ ss cs Kp, p ss cs Kp → t_Lspelt p_Lspelt p_Lways p_Lfit (dV cs.length Kp) ⟨startV 12 ss, cs.map some⟩) : VFn P w K mg base (k + 1) "_law_spelt" ["_law_known", "_law_kind_here", "_law_program"] p :=
  okF Fd scLspelt len (fun hr => bd_Lspelt G_Lspelt h_Lspelt G_Lways h_Lways G_Lfit h_Lfit B hr) rd
abbrev sLtoldv13 : Stmt := top 61
abbrev nLtoldv13 : List Str := ["_law_row_here", "_law_kind_here", "_law_program", "_law_door", "_law_found", "e"]
theorem scLtoldv13 : FnScope nLtoldv13 ["_law_row_here", "_law_kind_here", "_law_program", "_law_door"] (defScope sLtoldv13) := ⟨rfl, rfl, rfl, by decide +kernel, rfl, by decide +kernel, by decide +kernel⟩
theorem bd_Ltoldv13 {P : Program} {w : World} {K : PySem.W.Frag} {mg : Str → Option Value} {base : Heap} {k : Nat} {k_W2 : Nat} {g1 g2 : Addr} {q_w1 q_w2 : VSx} (W2 : Ways2X P w K mg base k_W2 "spelling_of" "number_of" g1 g2 q_w1 q_w2) (h_W2 : k_W2 ≤ k) (XT_Ltoldv13 : ∀ C ∈ (["NoLong"] : List Str), XOf K mg C ["KindError"] ["NoLong"]) (gE_KindError : ∃ c, mg "KindError" = some c) (B : Blt mg) {f : Addr} {cdv : Value} {A : Around} {outer : List Env} {s : Shared} {H : Hp} {E : XK}
    (hr : Room k (A.deeper (envOfC "_law_told" (defScope sLtoldv13) s.heap.objs.size f cdv))) : VSs (cxOf CX0 P w K mg base nLtoldv13 "_law_told" (defScope sLtoldv13) f cdv A outer s H E).nox (defBody sLtoldv13) (t_Ltoldv13 g1 g2  q_w1 q_w2) := by
  have h : VSs (cxOf CX0 P w K mg base nLtoldv13 "_law_told" (defScope sLtoldv13) f cdv A outer s H E).nox (defBody sLtoldv13) (vSeq (vSet 4 (vC .none)) (vSeq (vTryAs ["NoLong"] "KindError" 5
    ((xSet 4 (xCallW [g1, g2] (wayX q_w1 q_w2) ownD (vVar 3) (vCons (vVar 0) (vCons (vVar 1) (vCons (vVar 2) vNil))))))
    (fun C1 a1 => (vSeq (vSet 4 (vC .none)) ((vIfS (vNotT (vTest (vIsx C1 a1 5 "NoLong"))) ((vSet 4 (vC (.str "other")))) vNext))))) ((vRet (vVar 4))))) := (vss_cons (vs_set (i := 4) scLtoldv13.nd rfl (Or.inl rfl) ve_non)
    (vss_cons (vs_tryAs (ks := ["NoLong"]) (i := 5) rfl rfl scLtoldv13.nd rfl rfl rfl XT_Ltoldv13 List.mem_cons_self gE_KindError
    (fun pn xe hp => (vss_one (xs_set (i := 4) scLtoldv13.nd rfl (Or.inl rfl) (vx_callW finW_D W2.call hr h_W2 (W2.pa rfl rfl) (show 2 ≤ sizeLine by decide) (vp 3) (va_cons (vp 0) (va_cons (vp 1) (va_cons (vp 2) va_nil)))))))
    (fun C1 D1 a1 oe1 pn1 hC1 hg1 hz1 hf1 => (vss_cons (vs_set (i := 4) scLtoldv13.nd rfl (Or.inl rfl) ve_non)
      (vss_one (vs_if (vt_not (vt_val (ve_isx (i := 5) (XT_Ltoldv13 _ hC1) hg1 hz1 hf1 List.mem_cons_self rfl (Or.inl rfl) rfl B.isinstance rfl))) (vss_one (vs_set (i := 4) scLtoldv13.nd rfl (Or.inl rfl) ve_str)) vss_nil)))))
    (vss_one (vs_ret (vp 4)))))
  exact h
theorem ok_Ltoldv13 {P : Program} {w : World} {K : PySem.W.Frag} {mg : Str → Option Value} {base : Heap} {k : Nat} {p : VSp} (Fd : Df K mg "_law_told" sLtoldv13 ["_law_row_here", "_law_kind_here", "_law_program", "_law_door"]) {k_W2 : Nat} {g1 g2 : Addr} {q_w1 q_w2 : VSx} (W2 : Ways2X P w K mg base k_W2 "spelling_of" "number_of" g1 g2 q_w1 q_w2) (h_W2 : k_W2 ≤ k) (XT_Ltoldv13 : ∀ C ∈ (["NoLong"] : List Str), XOf K mg C ["KindError"] ["NoLong"]) (gE_KindError : ∃ c, mg "KindError" = some c) (B : Blt mg)
    (len : ∀ ss st Kp, p ss st Kp → ss.length = 4) (rd : ∀ ss cs Kp, p ss cs Kp → t_Ltoldv13 g1 g2  q_w1 q_w2 (dV cs.length Kp) ⟨startV 6 ss, cs.map some⟩) : VFn P w K mg base (k + 1) "_law_told" ["_law_row_here", "_law_kind_here", "_law_program", "_law_door"] p :=
  okF Fd scLtoldv13 len (fun hr => bd_Ltoldv13 W2 h_W2 XT_Ltoldv13 gE_KindError B hr) rd
abbrev slawk54 : Stmt := top 62
abbrev nlawk54 : List Str := ["_law_script", "_law_k", "_law_pool_here", "_law_row_here", "_law_kind_here", "_law_program", "_law_some", "_law_due", "_law_found", "_law_one"]
theorem sclawk54 : FnScope nlawk54 ["_law_script"] (defScope slawk54) := ⟨rfl, rfl, rfl, by decide +kernel, rfl, by decide +kernel, by decide +kernel⟩
theorem bd_lawk54 {P : Program} {w : World} {K : PySem.W.Frag} {mg : Str → Option Value} {base : Heap} {k : Nat} {k_Lpool : Nat} {p_Lpool : VSp} (G_Lpool : VFn P w K mg base k_Lpool "_law_pool" ["_law_script", "_law_k"] p_Lpool) (h_Lpool : k_Lpool ≤ k) {k_Lrowv8 : Nat} {p_Lrowv8 : VSp} (G_Lrowv8 : VFn P w K mg base k_Lrowv8 "_law_row" ["_law_pool_here"] p_Lrowv8) (h_Lrowv8 : k_Lrowv8 ≤ k) {k_Lkind : Nat} {p_Lkind : VSp} (G_Lkind : VFn P w K mg base k_Lkind "_law_kind" ["_law_pool_here", "_law_leaves", "_law_marks"] p_Lkind) (h_Lkind : k_Lkind ≤ k) {k_Ltake : Nat} {p_Ltake : VSp} (G_Ltake : VFn P w K mg base k_Ltake "_law_take" ["_law_pool_here", "_law_many"] p_Ltake) (h_Ltake : k_Ltake ≤ k) {k_Llonged : Nat} {p_Llonged : VSp} (G_Llonged : VFn P w K mg base k_Llonged "_law_longed" ["_law_pool_here", "_law_known", "_law_kind_here", "_law_rest"] p_Llonged) (h_Llonged : k_Llonged ≤ k) {k_Lislong : Nat} {p_Lislong : VSp} (G_Lislong : VFn P w K mg base k_Lislong "_law_is_long" ["_law_known", "_law_kind_here", "_law_program", "_law_takes"] p_Lislong) (h_Lislong : k_Lislong ≤ k) {k_Lspelt : Nat} {p_Lspelt : VSp} (G_Lspelt : VFn P w K mg base k_Lspelt "_law_spelt" ["_law_known", "_law_kind_here", "_law_program"] p_Lspelt) (h_Lspelt : k_Lspelt ≤ k) {k_Ltoldv13 : Nat} {p_Ltoldv13 : VSp} (G_Ltoldv13 : VFn P w K mg base k_Ltoldv13 "_law_told" ["_law_row_here", "_law_kind_here", "_law_program", "_law_door"] p_Ltoldv13) (h_Ltoldv13 : k_Ltoldv13 ≤ k) {k_sizeof : Nat} {p_sizeof : VSp} (G_sizeof : VFn P w K mg base k_sizeof "size_of" ["program"] p_sizeof) (h_sizeof : k_sizeof ≤ k) (B : Blt mg) {f : Addr} {cdv : Value} {A : Around} {outer : List Env} {s : Shared} {H : Hp} {E : XK}
    (hr : Room k (A.deeper (envOfC "law" (defScope slawk54) s.heap.objs.size f cdv))) : VSs (cxOf CX0 P w K mg base nlawk54 "law" (defScope slawk54) f cdv A outer s H E).nox (defBody slawk54) (t_lawk54 p_Lpool p_Lrowv8 p_Lkind p_Ltake p_Llonged p_Lislong p_Lspelt p_Ltoldv13 p_sizeof) := by
  have hu := u190 hr
  have h : VSs (cxOf CX0 P w K mg base nlawk54 "law" (defScope slawk54) f cdv A outer s H E).nox (defBody slawk54) (vSeq (vForW (vRng1 (vCons (vN (opII gMax) (vCons (vC (.int 1)) (vCons (vN (opII gMin) (vCons (vN opLen (vCons (vVar 0) vNil)) (vCons (vC (.int 8)) vNil))) vNil))) vNil)) (vgName 1)
      (vSeq (vSet 2 (vN (opCallK ownO p_Lpool) (vCons (vVar 0) (vCons (vVar 1) vNil)))) (vSeq (vSet 3 (vN (opCallK ownD p_Lrowv8) (vCons (vVar 2) vNil))) (vSeq (vSet 4 (vN (opCallK ownD p_Lkind) (vCons (vVar 2) (vCons (v2 opAdd (vC (.int 1)) (vN (opCallK ownD p_Ltake) (vCons (vVar 2) (vCons (vC (.int 4)) vNil)))) (vCons (vN opLst (vCons (vC (.str "a")) (vCons (vC (.str "b")) vNil))) vNil))))) (vSeq (vSet 5 (vN (opCallK ownD p_Llonged) (vCons (vVar 2) (vCons (vVar 3) (vCons (vVar 4) (vCons (vN opTup (vCons (vC (.int 0)) (vCons (v2 opAdd (vC (.int 1)) (vN (opCallK ownD p_Ltake) (vCons (vVar 2) (vCons (vC (.int 2)) vNil)))) vNil))) vNil)))))) (vSeq (vIfS (vTest (v2 (xEq false) (vN (opCallK ownD p_Ltake) (vCons (vVar 2) (vCons (vC (.int 3)) vNil))) (vC (.int 0)))) (vSeq (vSet 6 (vN opLstO (vCons (vN opTup (vCons (vC (.str "name")) (vCons (vC (.str "nobody")) vNil))) (vCons (vN opTup (vCons (vC (.str "first")) (vCons (vVar 5) vNil))) (vCons (vN opTup (vCons (vC (.str "pair")) (vCons (vVar 5) (vCons (vVar 5) vNil)))) (vCons (vN opTup (vCons (vC (.str "take")) (vCons (vC (.str "x0")) (vCons (vVar 4) (vCons (vVar 5) vNil))))) vNil)))))) (vSeq (vSet 6 (v2 opAddO (vVar 6) (vN opLst (vCons (vN opTup (vCons (vC (.str "first")) (vCons (vN opTup (vCons (vC (.str "pair")) (vCons (vVar 5) (vCons (vVar 5) vNil)))) vNil))) (vCons (vN opTup (vCons (vC (.str "give")) (vCons (vN opTup (vCons (vC (.str "take")) (vCons (vC (.str "y")) (vCons (vVar 4) (vCons (vN opTup (vCons (vC (.str "name")) (vCons (vC (.str "y")) vNil))) vNil))))) (vCons (vVar 5) vNil)))) vNil))))) (vSeq (vDrop (vM "list" opAppend (vVar 6) (vCons (v2 xIx (vN opLst (vCons (vN opTup (vCons (vC (.str "take")) (vCons (vC (.str "z")) (vCons (vVar 4) (vCons (vVar 5) vNil))))) (vCons (v2 opAdd (v2 opAdd (vSl opSl (vVar 5) vNoPart (vPart (vC (.int 1)))) (vN opTup (vCons (vC (.str "z")) vNil))) (vSl opSl (vVar 5) (vPart (vC (.int 2))) vNoPart)) vNil))) (vN opInt (vCons (v2 (xEq false) (v2 xIx (vVar 5) (vC (.int 0))) (vC (.str "take"))) vNil))) vNil))) ((vSet 5 (v2 xIx (vVar 6) (vN (opCallK ownD p_Ltake) (vCons (vVar 2) (vCons (vC (.int 7)) vNil))))))))) ((vIfS (vTest (v2 (xEq false) (vN (opCallK ownD p_Ltake) (vCons (vVar 2) (vCons (vC (.int 6)) vNil))) (vC (.int 0)))) ((vPar 4 5 (vCons (v2 xIx (v2 xIx (vVar 3) (v1 opNeg (vC (.int 1)))) (vC (.int 1))) (vCons (vN opTup (vCons (vC (.str "name")) (vCons (v2 xIx (v2 xIx (vVar 3) (v1 opNeg (vC (.int 1)))) (vC (.int 0))) vNil))) vNil)))) vNext))) (vSeq (vSet 7 (vC .none)) (vSeq (vIfS (vTruth (vN (opCallK ownD p_Lislong) (vCons (vVar 3) (vCons (vVar 4) (vCons (vVar 5) (vCons (vC (.int 0)) vNil)))))) ((vSet 7 (vN (opCallK ownD p_Lspelt) (vCons (vVar 3) (vCons (vVar 4) (vCons (vVar 5) vNil)))))) vNext) (vSeq (vSet 8 (vN (opCallK ownD p_Ltoldv13) (vCons (vN opList (vCons (vVar 3) vNil)) (vCons (vVar 4) (vCons (vVar 5) (vCons (vC (.int 0)) vNil)))))) (vSeq (vIfS (vOrT (vTest (v2 (xEq true) (vVar 8) (vVar 7))) (vAndT (vTest (v2 (xIsN false) (vVar 7) (vC .none))) (vTest (v2 (xIsN true) (vN (opCallK ownD p_Ltoldv13) (vCons (vN opList (vCons (vVar 3) vNil)) (vCons (vVar 4) (vCons (vVar 5) (vCons (vC (.int 1)) vNil))))) (vC .none))))) ((vRet (vC (.bool false)))) vNext) ((vIfS (vTest (v2 (xIsN true) (vVar 7) (vC .none))) (vSeq (vIfS (vOrT (vTest (v2 (xEq true) (vN opLen (vCons (vVar 7) vNil)) (vN (opCallK ownD p_sizeof) (vCons (vVar 5) vNil)))) (vNotT (vTest (vIsi "list" (vVar 8))))) ((vRet (vC (.bool false)))) vNext) ((vForW (vSeqI (vVar 8)) (vgName 9)
          ((vIfS (vOrT (vNotT (vTest (vIsi "tuple" (vVar 9)))) (vOrT (vTest (vIsi "bool" (v2 xIx (vVar 9) (vC (.int 0))))) (vTest (vIsi "bool" (v2 xIx (vVar 9) (vC (.int 1))))))) ((vRet (vC (.bool false)))) vNext))))) vNext)))))))))))) ((vRet (vC (.bool true))))) := (vss_cons (vs_forW (vi_range1 rfl B.range (va_cons (ve_max rfl rfl B.max (va_cons ve_int (va_cons (ve_min rfl rfl B.min (va_cons (ve_len rfl B.len (va_cons (vp 0) va_nil)) (va_cons ve_int va_nil))) va_nil))) va_nil)) (vg_name (i := 1) sclawk54.nd rfl (Or.inl rfl))
      (vss_cons (vs_set (i := 2) sclawk54.nd rfl (Or.inl rfl) (ve_call finW_O G_Lpool hr h_Lpool rfl (va_cons (vp 0) (va_cons (vp 1) va_nil))))
      (vss_cons (vs_set (i := 3) sclawk54.nd rfl (Or.inl rfl) (ve_call finW_D G_Lrowv8 hr h_Lrowv8 rfl (va_cons (vp 2) va_nil)))
      (vss_cons (vs_set (i := 4) sclawk54.nd rfl (Or.inl rfl) (ve_call finW_D G_Lkind hr h_Lkind rfl (va_cons (vp 2) (va_cons (ve_add ve_int (ve_call finW_D G_Ltake hr h_Ltake rfl (va_cons (vp 2) (va_cons ve_int va_nil)))) (va_cons (ve_lst (va_cons ve_str (va_cons ve_str va_nil))) va_nil)))))
      (vss_cons (vs_set (i := 5) sclawk54.nd rfl (Or.inl rfl) (ve_call finW_D G_Llonged hr h_Llonged rfl (va_cons (vp 2) (va_cons (vp 3) (va_cons (vp 4) (va_cons (ve_tup (va_cons ve_int (va_cons (ve_add ve_int (ve_call finW_D G_Ltake hr h_Ltake rfl (va_cons (vp 2) (va_cons ve_int va_nil)))) va_nil))) va_nil))))))
      (vss_cons (vs_if (vt_xeq hu (ve_call finW_D G_Ltake hr h_Ltake rfl (va_cons (vp 2) (va_cons ve_int va_nil))) ve_int) (vss_cons (vs_set (i := 6) sclawk54.nd rfl (Or.inl rfl) (ve_lstO (va_cons (ve_tup (va_cons ve_str (va_cons ve_str va_nil))) (va_cons (ve_tup (va_cons ve_str (va_cons (vp 5) va_nil))) (va_cons (ve_tup (va_cons ve_str (va_cons (vp 5) (va_cons (vp 5) va_nil)))) (va_cons (ve_tup (va_cons ve_str (va_cons ve_str (va_cons (vp 4) (va_cons (vp 5) va_nil))))) va_nil))))))
        (vss_cons (vs_set (i := 6) sclawk54.nd rfl (Or.inl rfl) (ve_addO (vp 6) (ve_lst (va_cons (ve_tup (va_cons ve_str (va_cons (ve_tup (va_cons ve_str (va_cons (vp 5) (va_cons (vp 5) va_nil)))) va_nil))) (va_cons (ve_tup (va_cons ve_str (va_cons (ve_tup (va_cons ve_str (va_cons ve_str (va_cons (vp 4) (va_cons (ve_tup (va_cons ve_str (va_cons ve_str va_nil))) va_nil))))) (va_cons (vp 5) va_nil)))) va_nil)))))
        (vss_cons (vs_expr (ve_append (vp 6) (va_cons (ve_xix (ve_lst (va_cons (ve_tup (va_cons ve_str (va_cons ve_str (va_cons (vp 4) (va_cons (vp 5) va_nil))))) (va_cons (ve_add (ve_add (ve_slice (vp 5) vo_none (vo_some ve_int)) (ve_tup (va_cons ve_str va_nil))) (ve_slice (vp 5) (vo_some ve_int) vo_none)) va_nil))) (ve_intB rfl B.int (va_cons (ve_xeq hu (ve_xix (vp 5) ve_int) ve_str) va_nil))) va_nil)))
        (vss_one (vs_set (i := 5) sclawk54.nd rfl (Or.inl rfl) (ve_xix (vp 6) (ve_call finW_D G_Ltake hr h_Ltake rfl (va_cons (vp 2) (va_cons ve_int va_nil))))))))) (vss_one (vs_if (vt_xeq hu (ve_call finW_D G_Ltake hr h_Ltake rfl (va_cons (vp 2) (va_cons ve_int va_nil))) ve_int) (vss_one (vs_par (i := 4) (j := 5) rfl sclawk54.nd rfl rfl (by decide) rfl rfl (va_cons (ve_xix (ve_xix (vp 3) (ve_neg ve_int)) ve_int) (va_cons (ve_tup (va_cons ve_str (va_cons (ve_xix (ve_xix (vp 3) (ve_neg ve_int)) ve_int) va_nil))) va_nil)))) vss_nil)))
      (vss_cons (vs_set (i := 7) sclawk54.nd rfl (Or.inl rfl) ve_non)
      (vss_cons (vs_if (vt_truth (ve_call finW_D G_Lislong hr h_Lislong rfl (va_cons (vp 3) (va_cons (vp 4) (va_cons (vp 5) (va_cons ve_int va_nil)))))) (vss_one (vs_set (i := 7) sclawk54.nd rfl (Or.inl rfl) (ve_call finW_D G_Lspelt hr h_Lspelt rfl (va_cons (vp 3) (va_cons (vp 4) (va_cons (vp 5) va_nil)))))) vss_nil)
      (vss_cons (vs_set (i := 8) sclawk54.nd rfl (Or.inl rfl) (ve_call finW_D G_Ltoldv13 hr h_Ltoldv13 rfl (va_cons (ve_list rfl B.list (va_cons (vp 3) va_nil)) (va_cons (vp 4) (va_cons (vp 5) (va_cons ve_int va_nil))))))
      (vss_cons (vs_if (VW.vt (vw_or (vt_xne hu (vp 8) (vp 7)) (vw_or1 (VW.vt (vw_and (vt_xisN (vp 7) ve_non) (vw_and1 (vt_xnotN (ve_call finW_D G_Ltoldv13 hr h_Ltoldv13 rfl (va_cons (ve_list rfl B.list (va_cons (vp 3) va_nil)) (va_cons (vp 4) (va_cons (vp 5) (va_cons ve_int va_nil))))) ve_non))))))) (vss_one (vs_ret ve_bl)) vss_nil)
      (vss_one (vs_if (vt_xnotN (vp 7) ve_non) (vss_cons (vs_if (VW.vt (vw_or (vt_xne hu (ve_len rfl B.len (va_cons (vp 7) va_nil)) (ve_call finW_D G_sizeof hr h_sizeof rfl (va_cons (vp 5) va_nil))) (vw_or1 (vt_not (vt_val (ve_isi (T := "list") (by decide) rfl B.isinstance rfl B.list (by decide +kernel) (vp 8))))))) (vss_one (vs_ret ve_bl)) vss_nil)
        (vss_one (vs_forW (vi_list (vp 8)) (vg_name (i := 9) sclawk54.nd rfl (Or.inl rfl))
          (vss_one (vs_if (VW.vt (vw_or (vt_not (vt_val (ve_isi (T := "tuple") (by decide) rfl B.isinstance rfl B.tuple (by decide +kernel) (vp 9)))) (vw_or (vt_val (ve_isi (T := "bool") (by decide) rfl B.isinstance rfl B.bool (by decide +kernel) (ve_xix (vp 9) ve_int))) (vw_or1 (vt_val (ve_isi (T := "bool") (by decide) rfl B.isinstance rfl B.bool (by decide +kernel) (ve_xix (vp 9) ve_int))))))) (vss_one (vs_ret ve_bl)) vss_nil)) (fun a b c => ps_for PassesOwn.never rfl a b c)))) vss_nil))))))))))) (fun a b c => ps_for PassesOwn.never rfl a b c))
    (vss_one (vs_ret ve_bl)))
  exact h
theorem exm_under {K : PySem.W.Frag} {S T : Addr} {b : Bool} (h1 : PySem.W.subIn K (.ref T) (.type "BaseException") = some true) (h2 : PySem.W.isClsIn K T = true) (h3 : PySem.W.typeIn K (.ref T) = some (.type "type")) (h4 : PySem.W.subIn K (.ref S) (.ref T) = some b) :
    PySem.W.exmOne K (.ref S) (.ref T) = some b := by
  unfold PySem.W.exmOne
  have h2' : (PySem.W.clsIn K T).isSome = true := h2
  rw [if_pos (by rw [h1]; rfl)]
  unfold PySem.W.kitCls
  first
    | (rw [if_pos (by rw [h2', h3]; rfl)]; exact h4)
    | (simp only [h3, h2', h4, beq_self_eq_true, Bool.and_self, if_true])
set_option maxHeartbeats 8000000 in
theorem all_mk {l : PySem.W.OpenLaw} {q : Program} {w : World} {K : PySem.W.Frag} {h : Heap} {mg : Str → Option Value} {fa f0 f1 f2 f3 f4 f5 f6 f7 f8 f9 f10 f11 f12 f13 f14 f15 f16 f17 f18 f19 f20 f21 f22 f23 f24 f25 : Addr} (X : K.In h) (G : h.Ns mainGlobals mg) (hfa : mg "law" = some (.ref fa)) (T : Told q mg h)
    {cG1 P1 cG10 P10 : Addr} {dd1 dd10 : Option Addr} {e1 e10 : Value} {v1 v10 : Array Value} {sx1 sx10 : Array (Option Value)}
    {od0 an0 od1 an1 od2 an2 od3 an3 od4 an4 od5 an5 od6 an6 od7 an7 od8 an8 od9 an9 od10 an10 od11 an11 od12 an12 od13 an13 od14 an14 od15 an15 od16 an16 od17 an17 od18 an18 od19 an19 od20 an20 od21 an21 od22 an22 od23 an23 od24 an24 od25 an25 : Option Addr}
    {sl0 sl1 sl2 sl3 sl4 sl5 sl6 sl7 sl8 sl9 sl10 sl11 sl12 sl13 sl14 sl15 sl16 sl17 sl18 sl19 sl20 sl21 sl22 sl23 sl24 sl25 : Array (Option Value)} {oc0 kV0 dc0 pm0 cd0 ct0 oc1 kV1 dc1 pm1 ct1 oc2 kV2 dc2 pm2 cd2 ct2 oc3 kV3 dc3 pm3 cd3 ct3 oc4 kV4 dc4 pm4 cd4 ct4 oc5 kV5 dc5 pm5 cd5 ct5 oc6 kV6 dc6 pm6 cd6 ct6 oc7 kV7 dc7 pm7 cd7 ct7 oc8 kV8 dc8 pm8 cd8 ct8 oc9 kV9 dc9 pm9 cd9 ct9 oc10 kV10 dc10 pm10 ct10 oc11 kV11 dc11 pm11 cd11 ct11 oc12 kV12 dc12 pm12 cd12 ct12 oc13 kV13 dc13 pm13 cd13 ct13 oc14 kV14 dc14 pm14 cd14 ct14 oc15 kV15 dc15 pm15 cd15 ct15 oc16 kV16 dc16 pm16 cd16 ct16 oc17 kV17 dc17 pm17 cd17 ct17 oc18 kV18 dc18 pm18 cd18 ct18 oc19 kV19 dc19 pm19 cd19 ct19 oc20 kV20 dc20 pm20 cd20 ct20 oc21 kV21 dc21 pm21 cd21 ct21 oc22 kV22 dc22 pm22 cd22 ct22 oc23 kV23 dc23 pm23 cd23 ct23 oc24 kV24 dc24 pm24 cd24 ct24 oc25 kV25 dc25 pm25 cd25 ct25 : Value}
    {u0 u1 u2 u3 : Tok}
    (a0 : PySem.W.nsIn K mainGlobals "law" = some (some (.ref f0)))
    (l0 : K.lookup f0 = some ⟨oc0, od0, .func (PySem.W.fnOf "law" "law" (defArgs slawk54) (defBody slawk54) (defScope slawk54) .none kV0 dc0 pm0 an0 cd0 ct0), sl0⟩)
    (c0 : PySem.W.codeIn K cd0 "law" = true) (k0 : PySem.W.keepIn K (.ref f0) = true)
    (a1 : PySem.W.nsIn K mainGlobals "is_mark" = some (some (.ref f1)))
    (l1 : K.lookup f1 = some ⟨oc1, od1, .func (PySem.W.fnOf "is_mark" "is_mark" (defArgs sismark) (defBody sismark) (defScope sismark) .none kV1 dc1 pm1 an1 (.ref cG1) ct1), sl1⟩)
    (c1 : PySem.W.codeIn K (.ref cG1) "is_mark" = true) (k1 : PySem.W.keepIn K (.ref f1) = true)
    (r1 : ((PyProof.Rows.recsOf q).any fun e => e.name == ("is_mark" : Str)) = true) (d1 : K.lookup cG1 = some ⟨e1, dd1, .fields v1, sx1⟩) (j1 : v1[11]? = some (.ref P1)) (n1 : K.lookup P1 = none)
    (a2 : PySem.W.nsIn K mainGlobals "kinds_in" = some (some (.ref f2)))
    (l2 : K.lookup f2 = some ⟨oc2, od2, .func (PySem.W.fnOf "kinds_in" "kinds_in" (defArgs skindsin) (defBody skindsin) (defScope skindsin) .none kV2 dc2 pm2 an2 cd2 ct2), sl2⟩)
    (c2 : PySem.W.codeIn K cd2 "kinds_in" = true) (k2 : PySem.W.keepIn K (.ref f2) = true)
    (a3 : PySem.W.nsIn K mainGlobals "has_form" = some (some (.ref f3)))
    (l3 : K.lookup f3 = some ⟨oc3, od3, .func (PySem.W.fnOf "has_form" "has_form" (defArgs shasformv2) (defBody shasformv2) (defScope shasformv2) .none kV3 dc3 pm3 an3 cd3 ct3), sl3⟩)
    (c3 : PySem.W.codeIn K cd3 "has_form" = true) (k3 : PySem.W.keepIn K (.ref f3) = true)
    (a4 : PySem.W.nsIn K mainGlobals "is_kind" = some (some (.ref f4)))
    (l4 : K.lookup f4 = some ⟨oc4, od4, .func (PySem.W.fnOf "is_kind" "is_kind" (defArgs siskind) (defBody siskind) (defScope siskind) .none kV4 dc4 pm4 an4 cd4 ct4), sl4⟩)
    (c4 : PySem.W.codeIn K cd4 "is_kind" = true) (k4 : PySem.W.keepIn K (.ref f4) = true)
    (a5 : PySem.W.nsIn K mainGlobals "ways_of" = some (some (.ref f5)))
    (l5 : K.lookup f5 = some ⟨oc5, od5, .func (PySem.W.fnOf "ways_of" "ways_of" (defArgs swaysof) (defBody swaysof) (defScope swaysof) .none kV5 dc5 pm5 an5 cd5 ct5), sl5⟩)
    (c5 : PySem.W.codeIn K cd5 "ways_of" = true) (k5 : PySem.W.keepIn K (.ref f5) = true)
    (a6 : PySem.W.nsIn K mainGlobals "programs_in" = some (some (.ref f6)))
    (l6 : K.lookup f6 = some ⟨oc6, od6, .func (PySem.W.fnOf "programs_in" "programs_in" (defArgs sprogramsin) (defBody sprogramsin) (defScope sprogramsin) .none kV6 dc6 pm6 an6 cd6 ct6), sl6⟩)
    (c6 : PySem.W.codeIn K cd6 "programs_in" = true) (k6 : PySem.W.keepIn K (.ref f6) = true)
    (a7 : PySem.W.nsIn K mainGlobals "has_word" = some (some (.ref f7)))
    (l7 : K.lookup f7 = some ⟨oc7, od7, .func (PySem.W.fnOf "has_word" "has_word" (defArgs shasword) (defBody shasword) (defScope shasword) .none kV7 dc7 pm7 an7 cd7 ct7), sl7⟩)
    (c7 : PySem.W.codeIn K cd7 "has_word" = true) (k7 : PySem.W.keepIn K (.ref f7) = true)
    (a8 : PySem.W.nsIn K mainGlobals "read_frame" = some (some (.ref f8)))
    (l8 : K.lookup f8 = some ⟨oc8, od8, .func (PySem.W.fnOf "read_frame" "read_frame" (defArgs sreadframe) (defBody sreadframe) (defScope sreadframe) .none kV8 dc8 pm8 an8 cd8 ct8), sl8⟩)
    (c8 : PySem.W.codeIn K cd8 "read_frame" = true) (k8 : PySem.W.keepIn K (.ref f8) = true)
    (a9 : PySem.W.nsIn K mainGlobals "gone_along" = some (some (.ref f9)))
    (l9 : K.lookup f9 = some ⟨oc9, od9, .func (PySem.W.fnOf "gone_along" "gone_along" (defArgs sgonealong) (defBody sgonealong) (defScope sgonealong) .none kV9 dc9 pm9 an9 cd9 ct9), sl9⟩)
    (c9 : PySem.W.codeIn K cd9 "gone_along" = true) (k9 : PySem.W.keepIn K (.ref f9) = true)
    (a10 : PySem.W.nsIn K mainGlobals "read_spot" = some (some (.ref f10)))
    (l10 : K.lookup f10 = some ⟨oc10, od10, .func (PySem.W.fnOf "read_spot" "read_spot" (defArgs sreadspot) (defBody sreadspot) (defScope sreadspot) .none kV10 dc10 pm10 an10 (.ref cG10) ct10), sl10⟩)
    (c10 : PySem.W.codeIn K (.ref cG10) "read_spot" = true) (k10 : PySem.W.keepIn K (.ref f10) = true)
    (r10 : ((PyProof.Rows.recsOf q).any fun e => e.name == ("read_spot" : Str)) = true) (d10 : K.lookup cG10 = some ⟨e10, dd10, .fields v10, sx10⟩) (j10 : v10[11]? = some (.ref P10)) (n10 : K.lookup P10 = none)
    (a11 : PySem.W.nsIn K mainGlobals "spots_of" = some (some (.ref f11)))
    (l11 : K.lookup f11 = some ⟨oc11, od11, .func (PySem.W.fnOf "spots_of" "spots_of" (defArgs sspotsof) (defBody sspotsof) (defScope sspotsof) .none kV11 dc11 pm11 an11 cd11 ct11), sl11⟩)
    (c11 : PySem.W.codeIn K cd11 "spots_of" = true) (k11 : PySem.W.keepIn K (.ref f11) = true)
    (a12 : PySem.W.nsIn K mainGlobals "spelling_of" = some (some (.ref f12)))
    (l12 : K.lookup f12 = some ⟨oc12, od12, .func (PySem.W.fnOf "spelling_of" "spelling_of" (defArgs sspellingofX) (defBody sspellingofX) (defScope sspellingofX) .none kV12 dc12 pm12 an12 cd12 ct12), sl12⟩)
    (c12 : PySem.W.codeIn K cd12 "spelling_of" = true) (k12 : PySem.W.keepIn K (.ref f12) = true)
    (a13 : PySem.W.nsIn K mainGlobals "number_of" = some (some (.ref f13)))
    (l13 : K.lookup f13 = some ⟨oc13, od13, .func (PySem.W.fnOf "number_of" "number_of" (defArgs snumberofX) (defBody snumberofX) (defScope snumberofX) .none kV13 dc13 pm13 an13 cd13 ct13), sl13⟩)
    (c13 : PySem.W.codeIn K cd13 "number_of" = true) (k13 : PySem.W.keepIn K (.ref f13) = true)
    (a14 : PySem.W.nsIn K mainGlobals "size_of" = some (some (.ref f14)))
    (l14 : K.lookup f14 = some ⟨oc14, od14, .func (PySem.W.fnOf "size_of" "size_of" (defArgs ssizeof) (defBody ssizeof) (defScope ssizeof) .none kV14 dc14 pm14 an14 cd14 ct14), sl14⟩)
    (c14 : PySem.W.codeIn K cd14 "size_of" = true) (k14 : PySem.W.keepIn K (.ref f14) = true)
    (a15 : PySem.W.nsIn K mainGlobals "_law_pool" = some (some (.ref f15)))
    (l15 : K.lookup f15 = some ⟨oc15, od15, .func (PySem.W.fnOf "_law_pool" "_law_pool" (defArgs sLpool) (defBody sLpool) (defScope sLpool) .none kV15 dc15 pm15 an15 cd15 ct15), sl15⟩)
    (c15 : PySem.W.codeIn K cd15 "_law_pool" = true) (k15 : PySem.W.keepIn K (.ref f15) = true)
    (a16 : PySem.W.nsIn K mainGlobals "_law_take" = some (some (.ref f16)))
    (l16 : K.lookup f16 = some ⟨oc16, od16, .func (PySem.W.fnOf "_law_take" "_law_take" (defArgs sLtake) (defBody sLtake) (defScope sLtake) .none kV16 dc16 pm16 an16 cd16 ct16), sl16⟩)
    (c16 : PySem.W.codeIn K cd16 "_law_take" = true) (k16 : PySem.W.keepIn K (.ref f16) = true)
    (a17 : PySem.W.nsIn K mainGlobals "_law_kind" = some (some (.ref f17)))
    (l17 : K.lookup f17 = some ⟨oc17, od17, .func (PySem.W.fnOf "_law_kind" "_law_kind" (defArgs sLkind) (defBody sLkind) (defScope sLkind) .none kV17 dc17 pm17 an17 cd17 ct17), sl17⟩)
    (c17 : PySem.W.codeIn K cd17 "_law_kind" = true) (k17 : PySem.W.keepIn K (.ref f17) = true)
    (a18 : PySem.W.nsIn K mainGlobals "_law_ways" = some (some (.ref f18)))
    (l18 : K.lookup f18 = some ⟨oc18, od18, .func (PySem.W.fnOf "_law_ways" "_law_ways" (defArgs sLways) (defBody sLways) (defScope sLways) .none kV18 dc18 pm18 an18 cd18 ct18), sl18⟩)
    (c18 : PySem.W.codeIn K cd18 "_law_ways" = true) (k18 : PySem.W.keepIn K (.ref f18) = true)
    (a19 : PySem.W.nsIn K mainGlobals "_law_longed" = some (some (.ref f19)))
    (l19 : K.lookup f19 = some ⟨oc19, od19, .func (PySem.W.fnOf "_law_longed" "_law_longed" (defArgs sLlonged) (defBody sLlonged) (defScope sLlonged) .none kV19 dc19 pm19 an19 cd19 ct19), sl19⟩)
    (c19 : PySem.W.codeIn K cd19 "_law_longed" = true) (k19 : PySem.W.keepIn K (.ref f19) = true)
    (a20 : PySem.W.nsIn K mainGlobals "_law_is_long" = some (some (.ref f20)))
    (l20 : K.lookup f20 = some ⟨oc20, od20, .func (PySem.W.fnOf "_law_is_long" "_law_is_long" (defArgs sLislong) (defBody sLislong) (defScope sLislong) .none kV20 dc20 pm20 an20 cd20 ct20), sl20⟩)
    (c20 : PySem.W.codeIn K cd20 "_law_is_long" = true) (k20 : PySem.W.keepIn K (.ref f20) = true)
    (a21 : PySem.W.nsIn K mainGlobals "_law_along" = some (some (.ref f21)))
    (l21 : K.lookup f21 = some ⟨oc21, od21, .func (PySem.W.fnOf "_law_along" "_law_along" (defArgs sLalong) (defBody sLalong) (defScope sLalong) .none kV21 dc21 pm21 an21 cd21 ct21), sl21⟩)
    (c21 : PySem.W.codeIn K cd21 "_law_along" = true) (k21 : PySem.W.keepIn K (.ref f21) = true)
    (a22 : PySem.W.nsIn K mainGlobals "_law_row" = some (some (.ref f22)))
    (l22 : K.lookup f22 = some ⟨oc22, od22, .func (PySem.W.fnOf "_law_row" "_law_row" (defArgs sLrowv8) (defBody sLrowv8) (defScope sLrowv8) .none kV22 dc22 pm22 an22 cd22 ct22), sl22⟩)
    (c22 : PySem.W.codeIn K cd22 "_law_row" = true) (k22 : PySem.W.keepIn K (.ref f22) = true)
    (a23 : PySem.W.nsIn K mainGlobals "_law_fit" = some (some (.ref f23)))
    (l23 : K.lookup f23 = some ⟨oc23, od23, .func (PySem.W.fnOf "_law_fit" "_law_fit" (defArgs sLfit) (defBody sLfit) (defScope sLfit) .none kV23 dc23 pm23 an23 cd23 ct23), sl23⟩)
    (c23 : PySem.W.codeIn K cd23 "_law_fit" = true) (k23 : PySem.W.keepIn K (.ref f23) = true)
    (a24 : PySem.W.nsIn K mainGlobals "_law_spelt" = some (some (.ref f24)))
    (l24 : K.lookup f24 = some ⟨oc24, od24, .func (PySem.W.fnOf "_law_spelt" "_law_spelt" (defArgs sLspelt) (defBody sLspelt) (defScope sLspelt) .none kV24 dc24 pm24 an24 cd24 ct24), sl24⟩)
    (c24 : PySem.W.codeIn K cd24 "_law_spelt" = true) (k24 : PySem.W.keepIn K (.ref f24) = true)
    (a25 : PySem.W.nsIn K mainGlobals "_law_told" = some (some (.ref f25)))
    (l25 : K.lookup f25 = some ⟨oc25, od25, .func (PySem.W.fnOf "_law_told" "_law_told" (defArgs sLtoldv13) (defBody sLtoldv13) (defScope sLtoldv13) .none kV25 dc25 pm25 an25 cd25 ct25), sl25⟩)
    (c25 : PySem.W.codeIn K cd25 "_law_told" = true) (k25 : PySem.W.keepIn K (.ref f25) = true)
    (zg_is_numbered : PySem.W.nsIn K mainGlobals "is_numbered" = some none)
    (zg_is_tree : PySem.W.nsIn K mainGlobals "is_tree" = some none)
    (zg_which_live : PySem.W.nsIn K mainGlobals "which_live" = some none)
    (zg_row_lives : PySem.W.nsIn K mainGlobals "row_lives" = some none)
    (zg_bars_by : PySem.W.nsIn K mainGlobals "bars_by" = some none)
    (zg_room_above : PySem.W.nsIn K mainGlobals "room_above" = some none)
    (zg_sum_with : PySem.W.nsIn K mainGlobals "sum_with" = some none)
    (zg_is_place : PySem.W.nsIn K mainGlobals "is_place" = some none)
    (zg_is_formed : PySem.W.nsIn K mainGlobals "is_formed" = some none)
    (zg_stand_once : PySem.W.nsIn K mainGlobals "stand_once" = some none)
    (zg_drop_name : PySem.W.nsIn K mainGlobals "drop_name" = some none)
    (zg_read_row : PySem.W.nsIn K mainGlobals "read_row" = some none)
    (zg_is_number : PySem.W.nsIn K mainGlobals "is_number" = some none)
    (z0 : PySem.W.nsIn K mainGlobals "len" = some none)
    (z1 : PySem.W.nsIn K mainGlobals "max" = some none)
    (z2 : PySem.W.nsIn K mainGlobals "min" = some none)
    (z3 : PySem.W.nsIn K mainGlobals "range" = some none)
    (z4 : PySem.W.nsIn K mainGlobals "int" = some none)
    (z5 : PySem.W.nsIn K mainGlobals "str" = some none)
    (z6 : PySem.W.nsIn K mainGlobals "list" = some none)
    (z7 : PySem.W.nsIn K mainGlobals "tuple" = some none)
    (z8 : PySem.W.nsIn K mainGlobals "bool" = some none)
    (z9 : PySem.W.nsIn K mainGlobals "sorted" = some none)
    (z10 : PySem.W.nsIn K mainGlobals "enumerate" = some none)
    (z11 : PySem.W.nsIn K mainGlobals "zip" = some none)
    (z12 : PySem.W.nsIn K mainGlobals "isinstance" = some none)
    (z13 : PySem.W.nsIn K mainGlobals "all" = some none)
    (z14 : PySem.W.nsIn K mainGlobals "any" = some none)
    (z15 : PySem.W.nsIn K mainGlobals "sum" = some none)
    (z16 : PySem.W.nsIn K mainGlobals "dict" = some none)
    (z17 : PySem.W.nsIn K mainGlobals "set" = some none)
    (z18 : PySem.W.nsIn K mainGlobals "divmod" = some none)
    (z19 : PySem.W.nsIn K mainGlobals "reversed" = some none)
    (z20 : PySem.W.nsIn K mainGlobals "repr" = some none)
    (y0 : PySem.W.nsIn K mainGlobals "DEEPEST" = some (some (.int 12 u0)))
    (y1 : PySem.W.nsIn K mainGlobals "LETTERS" = some (some (.str "abcdefghijklmnopqrstuvwxyz" u1)))
    (y2 : PySem.W.nsIn K mainGlobals "LONGEST" = some (some (.int 6 u2)))
    (y3 : PySem.W.nsIn K mainGlobals "MOST_LEAVES" = some (some (.int 24 u3)))
    {LLENGTHS_kinds : Addr} {hLENGTHS_kinds0 hLENGTHS_kinds1 hLENGTHS_kinds2 hLENGTHS_kinds3 : Int} {tLENGTHS_kinds0 uLENGTHS_kinds0 tLENGTHS_kinds1 uLENGTHS_kinds1 tLENGTHS_kinds2 uLENGTHS_kinds2 tLENGTHS_kinds3 uLENGTHS_kinds3 : Tok} {nnLENGTHS_kinds : Nat} (aDLENGTHS_kinds : PySem.W.nsIn K mainGlobals "LENGTHS_kinds" = some (some (.ref LLENGTHS_kinds)))
    (lDLENGTHS_kinds : K.lookup LLENGTHS_kinds = some ⟨.type "dict", none, .dict #[⟨hLENGTHS_kinds0, .str "mark" tLENGTHS_kinds0, .int 2 uLENGTHS_kinds0⟩, ⟨hLENGTHS_kinds1, .str "one" tLENGTHS_kinds1, .int 1 uLENGTHS_kinds1⟩, ⟨hLENGTHS_kinds2, .str "to" tLENGTHS_kinds2, .int 3 uLENGTHS_kinds2⟩, ⟨hLENGTHS_kinds3, .str "both" tLENGTHS_kinds3, .int 3 uLENGTHS_kinds3⟩] nnLENGTHS_kinds, #[]⟩)
    (kDLENGTHS_kinds : PySem.W.KeysLit w.params [⟨hLENGTHS_kinds0, .str "mark" tLENGTHS_kinds0, .int 2 uLENGTHS_kinds0⟩, ⟨hLENGTHS_kinds1, .str "one" tLENGTHS_kinds1, .int 1 uLENGTHS_kinds1⟩, ⟨hLENGTHS_kinds2, .str "to" tLENGTHS_kinds2, .int 3 uLENGTHS_kinds2⟩, ⟨hLENGTHS_kinds3, .str "both" tLENGTHS_kinds3, .int 3 uLENGTHS_kinds3⟩])
    (sDLENGTHS_kinds : (LLENGTHS_kinds == sysModules) = false)
    {LLENGTHS_programs : Addr} {hLENGTHS_programs0 hLENGTHS_programs1 hLENGTHS_programs2 hLENGTHS_programs3 hLENGTHS_programs4 hLENGTHS_programs5 hLENGTHS_programs6 : Int} {tLENGTHS_programs0 uLENGTHS_programs0 tLENGTHS_programs1 uLENGTHS_programs1 tLENGTHS_programs2 uLENGTHS_programs2 tLENGTHS_programs3 uLENGTHS_programs3 tLENGTHS_programs4 uLENGTHS_programs4 tLENGTHS_programs5 uLENGTHS_programs5 tLENGTHS_programs6 uLENGTHS_programs6 : Tok} {nnLENGTHS_programs : Nat} (aDLENGTHS_programs : PySem.W.nsIn K mainGlobals "LENGTHS_programs" = some (some (.ref LLENGTHS_programs)))
    (lDLENGTHS_programs : K.lookup LLENGTHS_programs = some ⟨.type "dict", none, .dict #[⟨hLENGTHS_programs0, .str "name" tLENGTHS_programs0, .int 2 uLENGTHS_programs0⟩, ⟨hLENGTHS_programs1, .str "take" tLENGTHS_programs1, .int 4 uLENGTHS_programs1⟩, ⟨hLENGTHS_programs2, .str "give" tLENGTHS_programs2, .int 3 uLENGTHS_programs2⟩, ⟨hLENGTHS_programs3, .str "pair" tLENGTHS_programs3, .int 3 uLENGTHS_programs3⟩, ⟨hLENGTHS_programs4, .str "first" tLENGTHS_programs4, .int 2 uLENGTHS_programs4⟩, ⟨hLENGTHS_programs5, .str "second" tLENGTHS_programs5, .int 2 uLENGTHS_programs5⟩, ⟨hLENGTHS_programs6, .str "thing" tLENGTHS_programs6, .int 1 uLENGTHS_programs6⟩] nnLENGTHS_programs, #[]⟩)
    (kDLENGTHS_programs : PySem.W.KeysLit w.params [⟨hLENGTHS_programs0, .str "name" tLENGTHS_programs0, .int 2 uLENGTHS_programs0⟩, ⟨hLENGTHS_programs1, .str "take" tLENGTHS_programs1, .int 4 uLENGTHS_programs1⟩, ⟨hLENGTHS_programs2, .str "give" tLENGTHS_programs2, .int 3 uLENGTHS_programs2⟩, ⟨hLENGTHS_programs3, .str "pair" tLENGTHS_programs3, .int 3 uLENGTHS_programs3⟩, ⟨hLENGTHS_programs4, .str "first" tLENGTHS_programs4, .int 2 uLENGTHS_programs4⟩, ⟨hLENGTHS_programs5, .str "second" tLENGTHS_programs5, .int 2 uLENGTHS_programs5⟩, ⟨hLENGTHS_programs6, .str "thing" tLENGTHS_programs6, .int 1 uLENGTHS_programs6⟩])
    (sDLENGTHS_programs : (LLENGTHS_programs == sysModules) = false)
    {LTMOVES : Addr} {ttMOVES0 ttMOVES1 ttMOVES2 : Tok} {nTMOVES : Nat} {odTMOVES : Option Addr} {slTMOVES : Array (Option Value)} (aTMOVES : PySem.W.nsIn K mainGlobals "MOVES" = some (some (.ref LTMOVES)))
    (lTMOVES : K.lookup LTMOVES = some ⟨.type "tuple", odTMOVES, .seq #[.str "first" ttMOVES0, .str "second" ttMOVES1, .str "give" ttMOVES2] nTMOVES, slTMOVES⟩)
    {eNoLong eKindError : Addr}
    (eaNoLong : PySem.W.nsIn K mainGlobals "NoLong" = some (some (.ref eNoLong)))
    (eaKindError : PySem.W.nsIn K mainGlobals "KindError" = some (some (.ref eKindError)))
    (ebKindError : PySem.W.subIn K (.ref eKindError) (.type "BaseException") = some true)
    (eiKindError : PySem.W.isClsIn K eKindError = true)
    (etKindError : PySem.W.typeIn K (.ref eKindError) = some (.type "type"))
    (qn : PySem.W.specialIn K (.builtin "object.__class__") "__get__" = some (some (.builtin "getset_descriptor.__get__")))
    (qt : PySem.W.takesIn K (.builtin "object.__class__") = some true)
    (x1NoLong : PySem.W.excIn K eNoLong [.type "ValueError", .type "Exception", .type "BaseException", .type "object"] "ValueError.__new__" = true)
    (x2NoLong : PySem.W.keepIn K (.ref eNoLong) = true)
    (x3NoLong : PySem.W.subIn K (.ref eNoLong) (.type "BaseException") = some true)
    (x4NoLong : PySem.W.typeIn K (.ref eNoLong) = some (.type "type"))
    (x5NoLong : PySem.W.findIn K (.ref eNoLong) "__getattribute__" = some (some (.builtin "BaseException.__getattribute__")))
    (x6NoLong : PySem.W.findIn K (.ref eNoLong) "__getattr__" = some none)
    (x7NoLong : PySem.W.hasDictIn K eNoLong = true)
    (x8NoLong : PySem.W.findIn K (.ref eNoLong) "__class__" = some (some (.builtin "object.__class__")))
    (x9NoLong : PySem.W.mroIn K eNoLong (.type "object") = some true)
    (sNoLong_KindError : PySem.W.subIn K (.ref eNoLong) (.ref eKindError) = some true)
    (kNoLong_NoLong : PySem.W.kitOne K (.ref eNoLong) (.ref eNoLong) = some true) :
    LamX.LawAtS l w K CX0 152 63 "_law_script" mg fa h := by
  have e := hfa.symm.trans (PySem.W.mg_of X G a0)
  cases e
  have F0 := fun_mk (st := slawk54) l0 c0 k0
  have FC1 : Vl.FunC K "is_mark" "is_mark" sismark f1 _ cG1 := ⟨⟨_, _, _, _, _, _, _, _, rfl, l1, c1⟩, k1⟩
  have F1 := FC1.fun
  have b1 := F1.binds (ps := ["text"]) fun _ _ _ _ _ _ us hl => match us, hl with | [_], _ => rfl
  have g1 := PySem.W.mg_of X G a1
  have T1 := T.tab X r1 g1 l1 rfl d1 j1
  have F2 := fun_mk (st := skindsin) l2 c2 k2
  have b2 := F2.binds (ps := ["kind"]) fun _ _ _ _ _ _ us hl => match us, hl with | [_], _ => rfl
  have g2 := PySem.W.mg_of X G a2
  have F3 := fun_mk (st := shasformv2) l3 c3 k3
  have b3 := F3.binds (ps := ["thing"]) fun _ _ _ _ _ _ us hl => match us, hl with | [_], _ => rfl
  have g3 := PySem.W.mg_of X G a3
  have F4 := fun_mk (st := siskind) l4 c4 k4
  have b4 := F4.binds (ps := ["thing"]) fun _ _ _ _ _ _ us hl => match us, hl with | [_], _ => rfl
  have g4 := PySem.W.mg_of X G a4
  have F5 := fun_mk (st := swaysof) l5 c5 k5
  have b5 := F5.binds (ps := ["kind"]) fun _ _ _ _ _ _ us hl => match us, hl with | [_], _ => rfl
  have g5 := PySem.W.mg_of X G a5
  have F6 := fun_mk (st := sprogramsin) l6 c6 k6
  have b6 := F6.binds (ps := ["part"]) fun _ _ _ _ _ _ us hl => match us, hl with | [_], _ => rfl
  have g6 := PySem.W.mg_of X G a6
  have F7 := fun_mk (st := shasword) l7 c7 k7
  have b7 := F7.binds (ps := ["part", "word"]) fun _ _ _ _ _ _ us hl => match us, hl with | [_, _], _ => rfl
  have g7 := PySem.W.mg_of X G a7
  have F8 := fun_mk (st := sreadframe) l8 c8 k8
  have b8 := F8.binds (ps := ["part", "kind", "scope", "given"]) fun _ _ _ _ _ _ us hl => match us, hl with | [_, _, _, _], _ => rfl
  have g8 := PySem.W.mg_of X G a8
  have F9 := fun_mk (st := sgonealong) l9 c9 k9
  have b9 := F9.binds (ps := ["kind", "moves", "scope"]) fun _ _ _ _ _ _ us hl => match us, hl with | [_, _, _], _ => rfl
  have g9 := PySem.W.mg_of X G a9
  have FC10 : Vl.FunC K "read_spot" "read_spot" sreadspot f10 _ cG10 := ⟨⟨_, _, _, _, _, _, _, _, rfl, l10, c10⟩, k10⟩
  have F10 := FC10.fun
  have b10 := F10.binds (ps := ["part", "mark", "scope", "numbers", "spots"]) fun _ _ _ _ _ _ us hl => match us, hl with | [_, _, _, _, _], _ => rfl
  have g10 := PySem.W.mg_of X G a10
  have T10 := T.tab X r10 g10 l10 rfl d10 j10
  have F11 := fun_mk (st := sspotsof) l11 c11 k11
  have b11 := F11.binds (ps := ["row", "kind", "program"]) fun _ _ _ _ _ _ us hl => match us, hl with | [_, _, _], _ => rfl
  have g11 := PySem.W.mg_of X G a11
  have F12 := fun_mk (st := sspellingofX) l12 c12 k12
  have b12 := F12.binds (ps := ["row", "kind", "program"]) fun _ _ _ _ _ _ us hl => match us, hl with | [_, _, _], _ => rfl
  have g12 := PySem.W.mg_of X G a12
  have F13 := fun_mk (st := snumberofX) l13 c13 k13
  have b13 := F13.binds (ps := ["row", "kind", "program"]) fun _ _ _ _ _ _ us hl => match us, hl with | [_, _, _], _ => rfl
  have g13 := PySem.W.mg_of X G a13
  have F14 := fun_mk (st := ssizeof) l14 c14 k14
  have b14 := F14.binds (ps := ["program"]) fun _ _ _ _ _ _ us hl => match us, hl with | [_], _ => rfl
  have g14 := PySem.W.mg_of X G a14
  have F15 := fun_mk (st := sLpool) l15 c15 k15
  have b15 := F15.binds (ps := ["_law_script", "_law_k"]) fun _ _ _ _ _ _ us hl => match us, hl with | [_, _], _ => rfl
  have g15 := PySem.W.mg_of X G a15
  have F16 := fun_mk (st := sLtake) l16 c16 k16
  have b16 := F16.binds (ps := ["_law_pool_here", "_law_many"]) fun _ _ _ _ _ _ us hl => match us, hl with | [_, _], _ => rfl
  have g16 := PySem.W.mg_of X G a16
  have F17 := fun_mk (st := sLkind) l17 c17 k17
  have b17 := F17.binds (ps := ["_law_pool_here", "_law_leaves", "_law_marks"]) fun _ _ _ _ _ _ us hl => match us, hl with | [_, _, _], _ => rfl
  have g17 := PySem.W.mg_of X G a17
  have F18 := fun_mk (st := sLways) l18 c18 k18
  have b18 := F18.binds (ps := ["_law_kind_here"]) fun _ _ _ _ _ _ us hl => match us, hl with | [_], _ => rfl
  have g18 := PySem.W.mg_of X G a18
  have F19 := fun_mk (st := sLlonged) l19 c19 k19
  have b19 := F19.binds (ps := ["_law_pool_here", "_law_known", "_law_kind_here", "_law_rest"]) fun _ _ _ _ _ _ us hl => match us, hl with | [_, _, _, _], _ => rfl
  have g19 := PySem.W.mg_of X G a19
  have F20 := fun_mk (st := sLislong) l20 c20 k20
  have b20 := F20.binds (ps := ["_law_known", "_law_kind_here", "_law_program", "_law_takes"]) fun _ _ _ _ _ _ us hl => match us, hl with | [_, _, _, _], _ => rfl
  have g20 := PySem.W.mg_of X G a20
  have F21 := fun_mk (st := sLalong) l21 c21 k21
  have b21 := F21.binds (ps := ["_law_known", "_law_program", "_law_takes"]) fun _ _ _ _ _ _ us hl => match us, hl with | [_, _, _], _ => rfl
  have g21 := PySem.W.mg_of X G a21
  have F22 := fun_mk (st := sLrowv8) l22 c22 k22
  have b22 := F22.binds (ps := ["_law_pool_here"]) fun _ _ _ _ _ _ us hl => match us, hl with | [_], _ => rfl
  have g22 := PySem.W.mg_of X G a22
  have F23 := fun_mk (st := sLfit) l23 c23 k23
  have b23 := F23.binds (ps := ["_law_moves", "_law_told_here"]) fun _ _ _ _ _ _ us hl => match us, hl with | [_, _], _ => rfl
  have g23 := PySem.W.mg_of X G a23
  have F24 := fun_mk (st := sLspelt) l24 c24 k24
  have b24 := F24.binds (ps := ["_law_known", "_law_kind_here", "_law_program"]) fun _ _ _ _ _ _ us hl => match us, hl with | [_, _, _], _ => rfl
  have g24 := PySem.W.mg_of X G a24
  have F25 := fun_mk (st := sLtoldv13) l25 c25 k25
  have b25 := F25.binds (ps := ["_law_row_here", "_law_kind_here", "_law_program", "_law_door"]) fun _ _ _ _ _ _ us hl => match us, hl with | [_, _, _, _], _ => rfl
  have g25 := PySem.W.mg_of X G a25
  have m0 := PySem.W.mg_none_of X G z0
  have m1 := PySem.W.mg_none_of X G z1
  have m2 := PySem.W.mg_none_of X G z2
  have m3 := PySem.W.mg_none_of X G z3
  have m4 := PySem.W.mg_none_of X G z4
  have m5 := PySem.W.mg_none_of X G z5
  have m6 := PySem.W.mg_none_of X G z6
  have m7 := PySem.W.mg_none_of X G z7
  have m8 := PySem.W.mg_none_of X G z8
  have m9 := PySem.W.mg_none_of X G z9
  have m10 := PySem.W.mg_none_of X G z10
  have m11 := PySem.W.mg_none_of X G z11
  have m12 := PySem.W.mg_none_of X G z12
  have m13 := PySem.W.mg_none_of X G z13
  have m14 := PySem.W.mg_none_of X G z14
  have m15 := PySem.W.mg_none_of X G z15
  have m16 := PySem.W.mg_none_of X G z16
  have m17 := PySem.W.mg_none_of X G z17
  have m18 := PySem.W.mg_none_of X G z18
  have m19 := PySem.W.mg_none_of X G z19
  have m20 := PySem.W.mg_none_of X G z20
  have x0 := PySem.W.mg_of X G y0
  have x1 := PySem.W.mg_of X G y1
  have x2 := PySem.W.mg_of X G y2
  have x3 := PySem.W.mg_of X G y3
  have KD_LENGTHS_kinds : CDict K w mg "LENGTHS_kinds" (tabI [("mark", 2), ("one", 1), ("to", 3), ("both", 3)]) := cdict_mk (PySem.W.mg_of X G aDLENGTHS_kinds) lDLENGTHS_kinds kDLENGTHS_kinds sDLENGTHS_kinds ⟨⟨_, _, _, rfl⟩, ⟨_, _, _, rfl⟩, ⟨_, _, _, rfl⟩, ⟨_, _, _, rfl⟩, trivial⟩
  have KT_LENGTHS_programs : CDt K w mg "LENGTHS_programs" (fun z => ([("name", .int 2), ("take", .int 4), ("give", .int 3), ("pair", .int 3), ("first", .int 2), ("second", .int 2), ("thing", .int 1)] : List (Str × D)).lookup z) := cdt_mk (PySem.W.mg_of X G aDLENGTHS_programs) lDLENGTHS_programs kDLENGTHS_programs sDLENGTHS_programs ⟨⟨_, _, _, rfl⟩, ⟨_, _, _, rfl⟩, ⟨_, _, _, rfl⟩, ⟨_, _, _, rfl⟩, ⟨_, _, _, rfl⟩, ⟨_, _, _, rfl⟩, ⟨_, _, _, rfl⟩, trivial⟩
  have C_MOVES : VConst K mg "MOVES" (.tuple [.str "first", .str "second", .str "give"]) := vconst_strs (vs := [.str "first" ttMOVES0, .str "second" ttMOVES1, .str "give" ttMOVES2]) (zs := ["first", "second", "give"]) (PySem.W.mg_of X G aTMOVES) lTMOVES (.cons "first" ttMOVES0 (.cons "second" ttMOVES1 (.cons "give" ttMOVES2 .nil))) (by simp)
  have egNoLong := PySem.W.mg_of X G eaNoLong
  have egKindError := PySem.W.mg_of X G eaKindError
  have gE_KindError : ∃ c, mg "KindError" = some c := ⟨_, egKindError⟩
  have XC_NoLong : XCl K mg "NoLong" := ⟨_, egNoLong, x1NoLong, x2NoLong, x3NoLong, x4NoLong⟩
  have XO_NoLong : XOf K mg "NoLong" ["KindError"] ["NoLong"] := ⟨_, egNoLong, ⟨x5NoLong, x6NoLong, x3NoLong, x7NoLong, x8NoLong, qn, qt, x9NoLong⟩, (List.forall_mem_cons.mpr ⟨⟨_, egKindError, by rw [show xsub "NoLong" "KindError" = true from by decide +kernel]; exact exm_under ebKindError eiKindError etKindError sNoLong_KindError⟩, (fun _ h => absurd h List.not_mem_nil)⟩), (List.forall_mem_cons.mpr ⟨⟨_, _, ⟨.own _, .inl egNoLong⟩, by rw [show xsub "NoLong" "NoLong" = true from by decide +kernel]; exact kNoLong_NoLong⟩, (fun _ h => absurd h List.not_mem_nil)⟩)⟩
  have tg : ∀ H : Hp, (∀ p ∈ ([(cG1, P1), (cG10, P10)] : List (Addr × Addr)), H p.2 = some (.tbl #[])) → ∀ P, TbK K P → GxR.TabG H P := fun H hT P ⟨nm, hm, gq, c, ht⟩ => by
    simp only [genNames, List.mem_cons, List.not_mem_nil, or_false] at hm
    rcases hm with rfl | rfl | rfl | rfl | rfl | rfl | rfl | rfl | rfl | rfl | rfl | rfl | rfl | rfl | rfl | rfl
    · rw [tbAt_one a1 l1 rfl d1 j1 ht]
      exact tabG_of (hT (cG1, P1) List.mem_cons_self)
    · exact absurd ht (tbAt_no zg_is_numbered)
    · rw [tbAt_one a10 l10 rfl d10 j10 ht]
      exact tabG_of (hT (cG10, P10) (List.mem_cons_of_mem _ List.mem_cons_self))
    · exact absurd ht (tbAt_no zg_is_tree)
    · exact absurd (gq rfl) (by rw [zg_is_tree]; rintro ⟨v, h⟩; cases h)
    · exact absurd ht (tbAt_no zg_which_live)
    · exact absurd ht (tbAt_no zg_row_lives)
    · exact absurd ht (tbAt_no zg_bars_by)
    · exact absurd ht (tbAt_no zg_room_above)
    · exact absurd ht (tbAt_no zg_sum_with)
    · exact absurd ht (tbAt_no zg_is_place)
    · exact absurd ht (tbAt_no zg_is_formed)
    · exact absurd ht (tbAt_no zg_stand_once)
    · exact absurd ht (tbAt_no zg_drop_name)
    · exact absurd ht (tbAt_no zg_read_row)
    · exact absurd ht (tbAt_no zg_is_number)
  refine ⟨PySem.W.fnOf "law" "law" (defArgs slawk54) (defBody slawk54) (defScope slawk54) .none kV0 dc0 pm0 an0 cd0 ct0, [(cG1, P1), (cG10, P10)], spLaw K, ?_, ?_, ?_, fun s v => .of_eq rfl, fun H a ns hl _ hT hS => ⟨a, ns, rfl, hS, hl, tg H hT, fun _ => rfl⟩, fun base _ _ hB => by
    have D_ismark : DfC K mg base "is_mark" sismark ["text"] cG1 P1 := ⟨⟨_, _, FC1, b1, g1⟩, tb_conv (hB (cG1, P1) (by simp)), ⟨"is_mark", by simp [genNames], fun h => absurd h (by decide +kernel), cG1, _, _, _, _, _, _, _, _, _, a1, l1, rfl, d1, j1⟩⟩
    have D_kindsin : Df K mg "kinds_in" skindsin ["kind"] := ⟨_, _, F2, b2, g2⟩
    have D_hasformv2 : Df K mg "has_form" shasformv2 ["thing"] := ⟨_, _, F3, b3, g3⟩
    have D_iskind : Df K mg "is_kind" siskind ["thing"] := ⟨_, _, F4, b4, g4⟩
    have D_waysof : Df K mg "ways_of" swaysof ["kind"] := ⟨_, _, F5, b5, g5⟩
    have D_programsin : Df K mg "programs_in" sprogramsin ["part"] := ⟨_, _, F6, b6, g6⟩
    have D_hasword : Df K mg "has_word" shasword ["part", "word"] := ⟨_, _, F7, b7, g7⟩
    have D_readframe : Df K mg "read_frame" sreadframe ["part", "kind", "scope", "given"] := ⟨_, _, F8, b8, g8⟩
    have D_gonealong : Df K mg "gone_along" sgonealong ["kind", "moves", "scope"] := ⟨_, _, F9, b9, g9⟩
    have D_readspot : DfC K mg base "read_spot" sreadspot ["part", "mark", "scope", "numbers", "spots"] cG10 P10 := ⟨⟨_, _, FC10, b10, g10⟩, tb_conv (hB (cG10, P10) (by simp)), ⟨"read_spot", by simp [genNames], fun h => absurd h (by decide +kernel), cG10, _, _, _, _, _, _, _, _, _, a10, l10, rfl, d10, j10⟩⟩
    have D_spotsof : Df K mg "spots_of" sspotsof ["row", "kind", "program"] := ⟨_, _, F11, b11, g11⟩
    have D_spellingof : Df K mg "spelling_of" sspellingofX ["row", "kind", "program"] := ⟨_, _, F12, b12, g12⟩
    have D_numberof : Df K mg "number_of" snumberofX ["row", "kind", "program"] := ⟨_, _, F13, b13, g13⟩
    have D_sizeof : Df K mg "size_of" ssizeof ["program"] := ⟨_, _, F14, b14, g14⟩
    have D_Lpool : Df K mg "_law_pool" sLpool ["_law_script", "_law_k"] := ⟨_, _, F15, b15, g15⟩
    have D_Ltake : Df K mg "_law_take" sLtake ["_law_pool_here", "_law_many"] := ⟨_, _, F16, b16, g16⟩
    have D_Lkind : Df K mg "_law_kind" sLkind ["_law_pool_here", "_law_leaves", "_law_marks"] := ⟨_, _, F17, b17, g17⟩
    have D_Lways : Df K mg "_law_ways" sLways ["_law_kind_here"] := ⟨_, _, F18, b18, g18⟩
    have D_Llonged : Df K mg "_law_longed" sLlonged ["_law_pool_here", "_law_known", "_law_kind_here", "_law_rest"] := ⟨_, _, F19, b19, g19⟩
    have D_Lislong : Df K mg "_law_is_long" sLislong ["_law_known", "_law_kind_here", "_law_program", "_law_takes"] := ⟨_, _, F20, b20, g20⟩
    have D_Lalong : Df K mg "_law_along" sLalong ["_law_known", "_law_program", "_law_takes"] := ⟨_, _, F21, b21, g21⟩
    have D_Lrowv8 : Df K mg "_law_row" sLrowv8 ["_law_pool_here"] := ⟨_, _, F22, b22, g22⟩
    have D_Lfit : Df K mg "_law_fit" sLfit ["_law_moves", "_law_told_here"] := ⟨_, _, F23, b23, g23⟩
    have D_Lspelt : Df K mg "_law_spelt" sLspelt ["_law_known", "_law_kind_here", "_law_program"] := ⟨_, _, F24, b24, g24⟩
    have D_Ltoldv13 : Df K mg "_law_told" sLtoldv13 ["_law_row_here", "_law_kind_here", "_law_program", "_law_door"] := ⟨_, _, F25, b25, g25⟩
    have B : Blt mg := ⟨m0, m1, m2, m3, m4, m5, m6, m7, m8, m9, m10, m11, m12, m13, m14, m15, m16, m17, m18, m19, m20⟩
    have C_DEEPEST : VConst K mg "DEEPEST" (.int 12) := ⟨(.int 12), _, x0, ⟨_, rfl⟩, fun _ => .int _⟩
    have C_LETTERS : VConst K mg "LETTERS" (.str "abcdefghijklmnopqrstuvwxyz") := ⟨(.str "abcdefghijklmnopqrstuvwxyz"), _, x1, ⟨_, rfl⟩, fun _ => .str _⟩
    have C_LONGEST : VConst K mg "LONGEST" (.int 6) := ⟨(.int 6), _, x2, ⟨_, rfl⟩, fun _ => .int _⟩
    have C_MOST_LEAVES : VConst K mg "MOST_LEAVES" (.int 24) := ⟨(.int 24), _, x3, ⟨_, rfl⟩, fun _ => .int _⟩
    have G_ismark : VFn l.prog w K mg base 2 "is_mark" ["text"] pMkD := ok_ismark D_ismark (by omega) C_LETTERS C_LONGEST B (fun ss st Kp h => by first | (obtain ⟨h, _⟩ := h; rw [h]; rfl) | (obtain ⟨_, h, _⟩ := h; rw [h]; rfl) | (obtain ⟨_, _, h, _⟩ := h; rw [h]; rfl) | (obtain ⟨_, _, _, h, _⟩ := h; rw [h]; rfl) | (obtain ⟨_, _, _, _, h, _⟩ := h; rw [h]; rfl) | (obtain ⟨_, _, _, _, _, h, _⟩ := h; rw [h]; rfl) | (obtain ⟨_, _, _, _, _, _, h, _⟩ := h; rw [h]; rfl) | (obtain ⟨_, _, _, _, _, _, _, h, _⟩ := h; rw [h]; rfl) | (obtain ⟨_, _, _, _, _, _, _, _, h, _⟩ := h; rw [h]; rfl) | (obtain ⟨_, _, _, _, _, _, _, _, _, h, _⟩ := h; rw [h]; rfl) | (obtain ⟨_, _, _, _, _, _, _, _, _, _, h, _⟩ := h; rw [h]; rfl) | (obtain ⟨_, _, _, _, _, _, _, _, _, _, _, h, _⟩ := h; rw [h]; rfl) | (obtain ⟨_, _, _, _, _, _, _, _, _, _, _, _, h, _⟩ := h; rw [h]; rfl) | (obtain ⟨_, _, _, _, _, _, _, _, _, _, _, _, _, h, _⟩ := h; rw [h]; rfl) | (obtain ⟨_, _, _, h, _⟩ := i_take h; rw [h]; rfl)) (fun ss cs Kp h => r_mkD h)
    have G_kindsin : VFn l.prog w K mg base 1 "kinds_in" ["kind"] pKindsIn := ok_kindsin D_kindsin B (fun ss st Kp h => by first | (obtain ⟨h, _⟩ := h; rw [h]; rfl) | (obtain ⟨_, h, _⟩ := h; rw [h]; rfl) | (obtain ⟨_, _, h, _⟩ := h; rw [h]; rfl) | (obtain ⟨_, _, _, h, _⟩ := h; rw [h]; rfl) | (obtain ⟨_, _, _, _, h, _⟩ := h; rw [h]; rfl) | (obtain ⟨_, _, _, _, _, h, _⟩ := h; rw [h]; rfl) | (obtain ⟨_, _, _, _, _, _, h, _⟩ := h; rw [h]; rfl) | (obtain ⟨_, _, _, _, _, _, _, h, _⟩ := h; rw [h]; rfl) | (obtain ⟨_, _, _, _, _, _, _, _, h, _⟩ := h; rw [h]; rfl) | (obtain ⟨_, _, _, _, _, _, _, _, _, h, _⟩ := h; rw [h]; rfl) | (obtain ⟨_, _, _, _, _, _, _, _, _, _, h, _⟩ := h; rw [h]; rfl) | (obtain ⟨_, _, _, _, _, _, _, _, _, _, _, h, _⟩ := h; rw [h]; rfl) | (obtain ⟨_, _, _, _, _, _, _, _, _, _, _, _, h, _⟩ := h; rw [h]; rfl) | (obtain ⟨_, _, _, _, _, _, _, _, _, _, _, _, _, h, _⟩ := h; rw [h]; rfl) | (obtain ⟨_, _, _, h, _⟩ := i_take h; rw [h]; rfl)) (fun ss cs Kp h => r_kindsin h)
    have G_hasformv2 : VFn l.prog w K mg base 4 "has_form" ["thing"] (pHfM ab) := ok_hasformv2 D_hasformv2 (G_ismark.imp (fun _ _ _ h => mkM_weak abM h)) (by omega) KD_LENGTHS_kinds B (fun ss st Kp h => by first | (obtain ⟨h, _⟩ := h; rw [h]; rfl) | (obtain ⟨_, h, _⟩ := h; rw [h]; rfl) | (obtain ⟨_, _, h, _⟩ := h; rw [h]; rfl) | (obtain ⟨_, _, _, h, _⟩ := h; rw [h]; rfl) | (obtain ⟨_, _, _, _, h, _⟩ := h; rw [h]; rfl) | (obtain ⟨_, _, _, _, _, h, _⟩ := h; rw [h]; rfl) | (obtain ⟨_, _, _, _, _, _, h, _⟩ := h; rw [h]; rfl) | (obtain ⟨_, _, _, _, _, _, _, h, _⟩ := h; rw [h]; rfl) | (obtain ⟨_, _, _, _, _, _, _, _, h, _⟩ := h; rw [h]; rfl) | (obtain ⟨_, _, _, _, _, _, _, _, _, h, _⟩ := h; rw [h]; rfl) | (obtain ⟨_, _, _, _, _, _, _, _, _, _, h, _⟩ := h; rw [h]; rfl) | (obtain ⟨_, _, _, _, _, _, _, _, _, _, _, h, _⟩ := h; rw [h]; rfl) | (obtain ⟨_, _, _, _, _, _, _, _, _, _, _, _, h, _⟩ := h; rw [h]; rfl) | (obtain ⟨_, _, _, _, _, _, _, _, _, _, _, _, _, h, _⟩ := h; rw [h]; rfl) | (obtain ⟨_, _, _, h, _⟩ := i_take h; rw [h]; rfl)) (fun ss cs Kp h => r_hfM h)
    have G_iskind : VFn l.prog w K mg base 5 "is_kind" ["thing"] (pIsM ab) := ok_iskind D_iskind G_hasformv2 (by omega) G_kindsin (by omega) C_DEEPEST C_MOST_LEAVES (fun ss st Kp h => by first | (obtain ⟨h, _⟩ := h; rw [h]; rfl) | (obtain ⟨_, h, _⟩ := h; rw [h]; rfl) | (obtain ⟨_, _, h, _⟩ := h; rw [h]; rfl) | (obtain ⟨_, _, _, h, _⟩ := h; rw [h]; rfl) | (obtain ⟨_, _, _, _, h, _⟩ := h; rw [h]; rfl) | (obtain ⟨_, _, _, _, _, h, _⟩ := h; rw [h]; rfl) | (obtain ⟨_, _, _, _, _, _, h, _⟩ := h; rw [h]; rfl) | (obtain ⟨_, _, _, _, _, _, _, h, _⟩ := h; rw [h]; rfl) | (obtain ⟨_, _, _, _, _, _, _, _, h, _⟩ := h; rw [h]; rfl) | (obtain ⟨_, _, _, _, _, _, _, _, _, h, _⟩ := h; rw [h]; rfl) | (obtain ⟨_, _, _, _, _, _, _, _, _, _, h, _⟩ := h; rw [h]; rfl) | (obtain ⟨_, _, _, _, _, _, _, _, _, _, _, h, _⟩ := h; rw [h]; rfl) | (obtain ⟨_, _, _, _, _, _, _, _, _, _, _, _, h, _⟩ := h; rw [h]; rfl) | (obtain ⟨_, _, _, _, _, _, _, _, _, _, _, _, _, h, _⟩ := h; rw [h]; rfl) | (obtain ⟨_, _, _, h, _⟩ := i_take h; rw [h]; rfl)) (fun ss cs Kp h => r_iskindM h)
    have G_waysof : VFn l.prog w K mg base 1 "ways_of" ["kind"] pWayL := ok_waysof D_waysof (fun ss st Kp h => by first | (obtain ⟨h, _⟩ := h; rw [h]; rfl) | (obtain ⟨_, h, _⟩ := h; rw [h]; rfl) | (obtain ⟨_, _, h, _⟩ := h; rw [h]; rfl) | (obtain ⟨_, _, _, h, _⟩ := h; rw [h]; rfl) | (obtain ⟨_, _, _, _, h, _⟩ := h; rw [h]; rfl) | (obtain ⟨_, _, _, _, _, h, _⟩ := h; rw [h]; rfl) | (obtain ⟨_, _, _, _, _, _, h, _⟩ := h; rw [h]; rfl) | (obtain ⟨_, _, _, _, _, _, _, h, _⟩ := h; rw [h]; rfl) | (obtain ⟨_, _, _, _, _, _, _, _, h, _⟩ := h; rw [h]; rfl) | (obtain ⟨_, _, _, _, _, _, _, _, _, h, _⟩ := h; rw [h]; rfl) | (obtain ⟨_, _, _, _, _, _, _, _, _, _, h, _⟩ := h; rw [h]; rfl) | (obtain ⟨_, _, _, _, _, _, _, _, _, _, _, h, _⟩ := h; rw [h]; rfl) | (obtain ⟨_, _, _, _, _, _, _, _, _, _, _, _, h, _⟩ := h; rw [h]; rfl) | (obtain ⟨_, _, _, _, _, _, _, _, _, _, _, _, _, h, _⟩ := h; rw [h]; rfl) | (obtain ⟨_, _, _, h, _⟩ := i_take h; rw [h]; rfl)) (fun ss cs Kp h => r_wayL h)
    have G_programsin : VFn l.prog w K mg base 1 "programs_in" ["part"] pIn := ok_programsin D_programsin B (fun ss st Kp h => by first | (obtain ⟨h, _⟩ := h; rw [h]; rfl) | (obtain ⟨_, h, _⟩ := h; rw [h]; rfl) | (obtain ⟨_, _, h, _⟩ := h; rw [h]; rfl) | (obtain ⟨_, _, _, h, _⟩ := h; rw [h]; rfl) | (obtain ⟨_, _, _, _, h, _⟩ := h; rw [h]; rfl) | (obtain ⟨_, _, _, _, _, h, _⟩ := h; rw [h]; rfl) | (obtain ⟨_, _, _, _, _, _, h, _⟩ := h; rw [h]; rfl) | (obtain ⟨_, _, _, _, _, _, _, h, _⟩ := h; rw [h]; rfl) | (obtain ⟨_, _, _, _, _, _, _, _, h, _⟩ := h; rw [h]; rfl) | (obtain ⟨_, _, _, _, _, _, _, _, _, h, _⟩ := h; rw [h]; rfl) | (obtain ⟨_, _, _, _, _, _, _, _, _, _, h, _⟩ := h; rw [h]; rfl) | (obtain ⟨_, _, _, _, _, _, _, _, _, _, _, h, _⟩ := h; rw [h]; rfl) | (obtain ⟨_, _, _, _, _, _, _, _, _, _, _, _, h, _⟩ := h; rw [h]; rfl) | (obtain ⟨_, _, _, _, _, _, _, _, _, _, _, _, _, h, _⟩ := h; rw [h]; rfl) | (obtain ⟨_, _, _, h, _⟩ := i_take h; rw [h]; rfl)) (fun ss cs Kp h => r_in h)
    have G_hasword : VFn l.prog w K mg base 1 "has_word" ["part", "word"] pHw := ok_hasword D_hasword KT_LENGTHS_programs B (fun ss st Kp h => by rcases h with ⟨_, _, _, h, _⟩ | ⟨_, _, _, _, h, _⟩ <;> (rw [h]; rfl)) (fun ss cs Kp h => r_hw h)
    have G_readframe : VFn l.prog w K mg base 6 "read_frame" ["part", "kind", "scope", "given"] (pFr ab) := ok_readframe D_readframe G_hasword (by omega) G_iskind (by omega) B (fun ss st Kp h => by obtain ⟨_, _, _, _, _, _, _, _, h⟩ := h; rcases h with ⟨_, _, h, _⟩ | ⟨_, _, h, _⟩ <;> (rw [h]; rfl)) (fun ss cs Kp h => r_fr abM h)
    have G_gonealong : VFn l.prog w K mg base 2 "gone_along" ["kind", "moves", "scope"] pGo := ok_gonealong D_gonealong G_waysof (by omega) B (fun ss st Kp h => by first | (obtain ⟨h, _⟩ := h; rw [h]; rfl) | (obtain ⟨_, h, _⟩ := h; rw [h]; rfl) | (obtain ⟨_, _, h, _⟩ := h; rw [h]; rfl) | (obtain ⟨_, _, _, h, _⟩ := h; rw [h]; rfl) | (obtain ⟨_, _, _, _, h, _⟩ := h; rw [h]; rfl) | (obtain ⟨_, _, _, _, _, h, _⟩ := h; rw [h]; rfl) | (obtain ⟨_, _, _, _, _, _, h, _⟩ := h; rw [h]; rfl) | (obtain ⟨_, _, _, _, _, _, _, h, _⟩ := h; rw [h]; rfl) | (obtain ⟨_, _, _, _, _, _, _, _, h, _⟩ := h; rw [h]; rfl) | (obtain ⟨_, _, _, _, _, _, _, _, _, h, _⟩ := h; rw [h]; rfl) | (obtain ⟨_, _, _, _, _, _, _, _, _, _, h, _⟩ := h; rw [h]; rfl) | (obtain ⟨_, _, _, _, _, _, _, _, _, _, _, h, _⟩ := h; rw [h]; rfl) | (obtain ⟨_, _, _, _, _, _, _, _, _, _, _, _, h, _⟩ := h; rw [h]; rfl) | (obtain ⟨_, _, _, _, _, _, _, _, _, _, _, _, _, h, _⟩ := h; rw [h]; rfl) | (obtain ⟨_, _, _, h, _⟩ := i_take h; rw [h]; rfl)) (fun ss cs Kp h => r_go h)
    have G_readspot : VFn l.prog w K mg base 5 "read_spot" ["part", "mark", "scope", "numbers", "spots"] (pSpot ab) := ok_readspot D_readspot G_hasword (by omega) G_gonealong (by omega) (by omega) (by omega) C_MOVES B (fun ss st Kp h => by obtain ⟨_, _, _, _, _, _, _, _, _, _, _, _, _, h⟩ := h; rcases h with ⟨_, _, h, _⟩ | ⟨_, _, h, _⟩ <;> (rw [h]; rfl)) (fun ss cs Kp h => r_spot abM h)
    have G_spotsof : VFn l.prog w K mg base 7 "spots_of" ["row", "kind", "program"] (pSpots ab) := ok_spotsof D_spotsof G_readspot (by omega) G_readframe (by omega) B (fun ss st Kp h => by obtain ⟨_, _, _, _, _, _, _, _, h⟩ := h; rcases h with ⟨_, _, _, h, _⟩ | ⟨_, _, h, _⟩ <;> (rw [h]; rfl)) (fun ss cs Kp h => r_spots abM h)
    have GX_spellingof : VFx l.prog w K mg base 8 "spelling_of" ["row", "kind", "program"] (xSpl ab) := ok_spellingofX D_spellingof G_spotsof (by omega) XC_NoLong (fun ss st Kp Ep h => by first | (obtain ⟨h, _⟩ := h; rw [h]; rfl) | (obtain ⟨_, h, _⟩ := h; rw [h]; rfl) | (obtain ⟨_, _, h, _⟩ := h; rw [h]; rfl) | (obtain ⟨_, _, _, h, _⟩ := h; rw [h]; rfl) | (obtain ⟨_, _, _, _, h, _⟩ := h; rw [h]; rfl) | (obtain ⟨_, _, _, _, _, h, _⟩ := h; rw [h]; rfl) | (obtain ⟨_, _, _, _, _, _, h, _⟩ := h; rw [h]; rfl) | (obtain ⟨_, _, _, _, _, _, _, h, _⟩ := h; rw [h]; rfl) | (obtain ⟨_, _, _, _, _, _, _, _, h, _⟩ := h; rw [h]; rfl) | (obtain ⟨_, _, _, _, _, _, _, _, _, h, _⟩ := h; rw [h]; rfl) | (obtain ⟨_, _, _, _, _, _, _, _, _, _, h, _⟩ := h; rw [h]; rfl) | (obtain ⟨_, _, _, _, _, _, _, _, _, _, _, h, _⟩ := h; rw [h]; rfl) | (obtain ⟨_, _, _, _, _, _, _, _, _, _, _, _, h, _⟩ := h; rw [h]; rfl) | (obtain ⟨_, _, _, _, _, _, _, _, _, _, _, _, _, h, _⟩ := h; rw [h]; rfl) | (obtain ⟨_, _, _, h, _⟩ := i_take h; rw [h]; rfl)) (fun ss cs Kp Ep h => r_Spl h)
    have G_spellingof := GX_spellingof.pure
    have GX_numberof : VFx l.prog w K mg base 9 "number_of" ["row", "kind", "program"] (xNmb ab) := ok_numberofX D_numberof GX_spellingof (by omega) (fun ss st Kp Ep h => by first | (obtain ⟨h, _⟩ := h; rw [h]; rfl) | (obtain ⟨_, h, _⟩ := h; rw [h]; rfl) | (obtain ⟨_, _, h, _⟩ := h; rw [h]; rfl) | (obtain ⟨_, _, _, h, _⟩ := h; rw [h]; rfl) | (obtain ⟨_, _, _, _, h, _⟩ := h; rw [h]; rfl) | (obtain ⟨_, _, _, _, _, h, _⟩ := h; rw [h]; rfl) | (obtain ⟨_, _, _, _, _, _, h, _⟩ := h; rw [h]; rfl) | (obtain ⟨_, _, _, _, _, _, _, h, _⟩ := h; rw [h]; rfl) | (obtain ⟨_, _, _, _, _, _, _, _, h, _⟩ := h; rw [h]; rfl) | (obtain ⟨_, _, _, _, _, _, _, _, _, h, _⟩ := h; rw [h]; rfl) | (obtain ⟨_, _, _, _, _, _, _, _, _, _, h, _⟩ := h; rw [h]; rfl) | (obtain ⟨_, _, _, _, _, _, _, _, _, _, _, h, _⟩ := h; rw [h]; rfl) | (obtain ⟨_, _, _, _, _, _, _, _, _, _, _, _, h, _⟩ := h; rw [h]; rfl) | (obtain ⟨_, _, _, _, _, _, _, _, _, _, _, _, _, h, _⟩ := h; rw [h]; rfl) | (obtain ⟨_, _, _, h, _⟩ := i_take h; rw [h]; rfl)) (fun ss cs Kp Ep h => r_Nmb h)
    obtain ⟨g1, g2, W2⟩ := Ways2X.of (GX_spellingof.mono (show 8 ≤ 9 by decide)) GX_numberof
    have G_numberof := GX_numberof.pure
    have G_sizeof : VFn l.prog w K mg base 2 "size_of" ["program"] pSz := ok_sizeof D_sizeof G_programsin (by omega) (fun ss st Kp h => by first | (obtain ⟨h, _⟩ := h; rw [h]; rfl) | (obtain ⟨_, h, _⟩ := h; rw [h]; rfl) | (obtain ⟨_, _, h, _⟩ := h; rw [h]; rfl) | (obtain ⟨_, _, _, h, _⟩ := h; rw [h]; rfl) | (obtain ⟨_, _, _, _, h, _⟩ := h; rw [h]; rfl) | (obtain ⟨_, _, _, _, _, h, _⟩ := h; rw [h]; rfl) | (obtain ⟨_, _, _, _, _, _, h, _⟩ := h; rw [h]; rfl) | (obtain ⟨_, _, _, _, _, _, _, h, _⟩ := h; rw [h]; rfl) | (obtain ⟨_, _, _, _, _, _, _, _, h, _⟩ := h; rw [h]; rfl) | (obtain ⟨_, _, _, _, _, _, _, _, _, h, _⟩ := h; rw [h]; rfl) | (obtain ⟨_, _, _, _, _, _, _, _, _, _, h, _⟩ := h; rw [h]; rfl) | (obtain ⟨_, _, _, _, _, _, _, _, _, _, _, h, _⟩ := h; rw [h]; rfl) | (obtain ⟨_, _, _, _, _, _, _, _, _, _, _, _, h, _⟩ := h; rw [h]; rfl) | (obtain ⟨_, _, _, _, _, _, _, _, _, _, _, _, _, h, _⟩ := h; rw [h]; rfl) | (obtain ⟨_, _, _, h, _⟩ := i_take h; rw [h]; rfl)) (fun ss cs Kp h => r_sz h)
    have G_Lpool : VFn l.prog w K mg base 1 "_law_pool" ["_law_script", "_law_k"] pPool := ok_Lpool D_Lpool B (fun ss st Kp h => by first | (obtain ⟨h, _⟩ := h; rw [h]; rfl) | (obtain ⟨_, h, _⟩ := h; rw [h]; rfl) | (obtain ⟨_, _, h, _⟩ := h; rw [h]; rfl) | (obtain ⟨_, _, _, h, _⟩ := h; rw [h]; rfl) | (obtain ⟨_, _, _, _, h, _⟩ := h; rw [h]; rfl) | (obtain ⟨_, _, _, _, _, h, _⟩ := h; rw [h]; rfl) | (obtain ⟨_, _, _, _, _, _, h, _⟩ := h; rw [h]; rfl) | (obtain ⟨_, _, _, _, _, _, _, h, _⟩ := h; rw [h]; rfl) | (obtain ⟨_, _, _, _, _, _, _, _, h, _⟩ := h; rw [h]; rfl) | (obtain ⟨_, _, _, _, _, _, _, _, _, h, _⟩ := h; rw [h]; rfl) | (obtain ⟨_, _, _, _, _, _, _, _, _, _, h, _⟩ := h; rw [h]; rfl) | (obtain ⟨_, _, _, _, _, _, _, _, _, _, _, h, _⟩ := h; rw [h]; rfl) | (obtain ⟨_, _, _, _, _, _, _, _, _, _, _, _, h, _⟩ := h; rw [h]; rfl) | (obtain ⟨_, _, _, _, _, _, _, _, _, _, _, _, _, h, _⟩ := h; rw [h]; rfl) | (obtain ⟨_, _, _, h, _⟩ := i_take h; rw [h]; rfl)) (fun ss cs Kp h => r_pool h)
    have G_Ltake : VFn l.prog w K mg base 1 "_law_take" ["_law_pool_here", "_law_many"] pTake := ok_Ltake D_Ltake (fun ss st Kp h => by first | (obtain ⟨h, _⟩ := h; rw [h]; rfl) | (obtain ⟨_, h, _⟩ := h; rw [h]; rfl) | (obtain ⟨_, _, h, _⟩ := h; rw [h]; rfl) | (obtain ⟨_, _, _, h, _⟩ := h; rw [h]; rfl) | (obtain ⟨_, _, _, _, h, _⟩ := h; rw [h]; rfl) | (obtain ⟨_, _, _, _, _, h, _⟩ := h; rw [h]; rfl) | (obtain ⟨_, _, _, _, _, _, h, _⟩ := h; rw [h]; rfl) | (obtain ⟨_, _, _, _, _, _, _, h, _⟩ := h; rw [h]; rfl) | (obtain ⟨_, _, _, _, _, _, _, _, h, _⟩ := h; rw [h]; rfl) | (obtain ⟨_, _, _, _, _, _, _, _, _, h, _⟩ := h; rw [h]; rfl) | (obtain ⟨_, _, _, _, _, _, _, _, _, _, h, _⟩ := h; rw [h]; rfl) | (obtain ⟨_, _, _, _, _, _, _, _, _, _, _, h, _⟩ := h; rw [h]; rfl) | (obtain ⟨_, _, _, _, _, _, _, _, _, _, _, _, h, _⟩ := h; rw [h]; rfl) | (obtain ⟨_, _, _, _, _, _, _, _, _, _, _, _, _, h, _⟩ := h; rw [h]; rfl) | (obtain ⟨_, _, _, h, _⟩ := i_take h; rw [h]; rfl)) (fun ss cs Kp h => r_take h)
    have R_Lkind : ∀ N : Nat, VFn l.prog w K mg base (N + 1) "_law_kind" ["_law_pool_here", "_law_leaves", "_law_marks"] (pKind N) := by
      intro N
      induction N with
      | zero => exact vacF D_Lkind scLkind (fun ss st Kp h => by obtain ⟨_, _, _, _, _, _, _, h1, h2, _⟩ := i_kind h; omega)
      | succ N ih => exact ok_Lkind D_Lkind G_Ltake (by omega) ih (by omega) B (fun ss st Kp h => by obtain ⟨_, _, _, _, h, _⟩ := i_kind h; rw [h]; rfl) (fun ss cs Kp h => r_kind h)
    have G_Lkind := R_Lkind 4
    have R_Lways : ∀ N : Nat, VFn l.prog w K mg base (N + 1) "_law_ways" ["_law_kind_here"] (pLw N) := by
      intro N
      induction N with
      | zero => exact vacF D_Lways scLways (fun ss st Kp ⟨k, h, _⟩ => by have := k.leaves_pos; omega)
      | succ N ih => exact ok_Lways D_Lways ih (by omega) B (fun ss st Kp h => by first | (obtain ⟨h, _⟩ := h; rw [h]; rfl) | (obtain ⟨_, h, _⟩ := h; rw [h]; rfl) | (obtain ⟨_, _, h, _⟩ := h; rw [h]; rfl) | (obtain ⟨_, _, _, h, _⟩ := h; rw [h]; rfl) | (obtain ⟨_, _, _, _, h, _⟩ := h; rw [h]; rfl) | (obtain ⟨_, _, _, _, _, h, _⟩ := h; rw [h]; rfl) | (obtain ⟨_, _, _, _, _, _, h, _⟩ := h; rw [h]; rfl) | (obtain ⟨_, _, _, _, _, _, _, h, _⟩ := h; rw [h]; rfl) | (obtain ⟨_, _, _, _, _, _, _, _, h, _⟩ := h; rw [h]; rfl) | (obtain ⟨_, _, _, _, _, _, _, _, _, h, _⟩ := h; rw [h]; rfl) | (obtain ⟨_, _, _, _, _, _, _, _, _, _, h, _⟩ := h; rw [h]; rfl) | (obtain ⟨_, _, _, _, _, _, _, _, _, _, _, h, _⟩ := h; rw [h]; rfl) | (obtain ⟨_, _, _, _, _, _, _, _, _, _, _, _, h, _⟩ := h; rw [h]; rfl) | (obtain ⟨_, _, _, _, _, _, _, _, _, _, _, _, _, h, _⟩ := h; rw [h]; rfl) | (obtain ⟨_, _, _, h, _⟩ := i_take h; rw [h]; rfl)) (fun ss cs Kp h => r_Lw h)
    have G_Lways := R_Lways 4
    have R_Llonged : ∀ N : Nat, VFn l.prog w K mg base (N + 6) "_law_longed" ["_law_pool_here", "_law_known", "_law_kind_here", "_law_rest"] (pLgd N) := by
      intro N
      induction N with
      | zero => exact vacF D_Llonged scLlonged (fun ss st Kp ⟨_, _, k, _, _, _, _, _, _, _, _, _, h, _⟩ => by have := k.leaves_pos; omega)
      | succ N ih => exact ok_Llonged D_Llonged ih (by omega) G_Lways (by omega) G_Ltake (by omega) B (fun ss st Kp h => by first | (obtain ⟨h, _⟩ := h; rw [h]; rfl) | (obtain ⟨_, h, _⟩ := h; rw [h]; rfl) | (obtain ⟨_, _, h, _⟩ := h; rw [h]; rfl) | (obtain ⟨_, _, _, h, _⟩ := h; rw [h]; rfl) | (obtain ⟨_, _, _, _, h, _⟩ := h; rw [h]; rfl) | (obtain ⟨_, _, _, _, _, h, _⟩ := h; rw [h]; rfl) | (obtain ⟨_, _, _, _, _, _, h, _⟩ := h; rw [h]; rfl) | (obtain ⟨_, _, _, _, _, _, _, h, _⟩ := h; rw [h]; rfl) | (obtain ⟨_, _, _, _, _, _, _, _, h, _⟩ := h; rw [h]; rfl) | (obtain ⟨_, _, _, _, _, _, _, _, _, h, _⟩ := h; rw [h]; rfl) | (obtain ⟨_, _, _, _, _, _, _, _, _, _, h, _⟩ := h; rw [h]; rfl) | (obtain ⟨_, _, _, _, _, _, _, _, _, _, _, h, _⟩ := h; rw [h]; rfl) | (obtain ⟨_, _, _, _, _, _, _, _, _, _, _, _, h, _⟩ := h; rw [h]; rfl) | (obtain ⟨_, _, _, _, _, _, _, _, _, _, _, _, _, h, _⟩ := h; rw [h]; rfl) | (obtain ⟨_, _, _, h, _⟩ := i_take h; rw [h]; rfl)) (fun ss cs Kp h => r_Lgd h)
    have G_Llonged := R_Llonged 20
    have R_both : ∀ N : Nat, VFn l.prog w K mg base (N + 1) "_law_is_long" ["_law_known", "_law_kind_here", "_law_program", "_law_takes"] (pLiG ab N) ∧ VFn l.prog w K mg base (N + 1) "_law_along" ["_law_known", "_law_program", "_law_takes"] (pAlG ab N) := by
      intro N
      induction N with
      | zero => exact ⟨vacF (k := 0) D_Lislong scLislong (fun ss st Kp ⟨_, _, _, _, _, _, _, _, _, h, _⟩ => by omega), vacF (k := 0) D_Lalong scLalong (fun ss st Kp ⟨_, _, _, _, _, _, _, h, _⟩ => by omega)⟩
      | succ N ih => exact ⟨ok_Lislong (k := N + 1) D_Lislong ih.2 (by omega) ih.1 (by omega) B (fun ss st Kp h => by first | (obtain ⟨h, _⟩ := h; rw [h]; rfl) | (obtain ⟨_, h, _⟩ := h; rw [h]; rfl) | (obtain ⟨_, _, h, _⟩ := h; rw [h]; rfl) | (obtain ⟨_, _, _, h, _⟩ := h; rw [h]; rfl) | (obtain ⟨_, _, _, _, h, _⟩ := h; rw [h]; rfl) | (obtain ⟨_, _, _, _, _, h, _⟩ := h; rw [h]; rfl) | (obtain ⟨_, _, _, _, _, _, h, _⟩ := h; rw [h]; rfl) | (obtain ⟨_, _, _, _, _, _, _, h, _⟩ := h; rw [h]; rfl) | (obtain ⟨_, _, _, _, _, _, _, _, h, _⟩ := h; rw [h]; rfl) | (obtain ⟨_, _, _, _, _, _, _, _, _, h, _⟩ := h; rw [h]; rfl) | (obtain ⟨_, _, _, _, _, _, _, _, _, _, h, _⟩ := h; rw [h]; rfl) | (obtain ⟨_, _, _, _, _, _, _, _, _, _, _, h, _⟩ := h; rw [h]; rfl) | (obtain ⟨_, _, _, _, _, _, _, _, _, _, _, _, h, _⟩ := h; rw [h]; rfl) | (obtain ⟨_, _, _, _, _, _, _, _, _, _, _, _, _, h, _⟩ := h; rw [h]; rfl) | (obtain ⟨_, _, _, h, _⟩ := i_take h; rw [h]; rfl)) (fun ss cs Kp h => r_LiG abM h), ok_Lalong (k := N + 1) D_Lalong ih.2 (by omega) ih.1 (by omega) (fun ss st Kp h => by first | (obtain ⟨h, _⟩ := h; rw [h]; rfl) | (obtain ⟨_, h, _⟩ := h; rw [h]; rfl) | (obtain ⟨_, _, h, _⟩ := h; rw [h]; rfl) | (obtain ⟨_, _, _, h, _⟩ := h; rw [h]; rfl) | (obtain ⟨_, _, _, _, h, _⟩ := h; rw [h]; rfl) | (obtain ⟨_, _, _, _, _, h, _⟩ := h; rw [h]; rfl) | (obtain ⟨_, _, _, _, _, _, h, _⟩ := h; rw [h]; rfl) | (obtain ⟨_, _, _, _, _, _, _, h, _⟩ := h; rw [h]; rfl) | (obtain ⟨_, _, _, _, _, _, _, _, h, _⟩ := h; rw [h]; rfl) | (obtain ⟨_, _, _, _, _, _, _, _, _, h, _⟩ := h; rw [h]; rfl) | (obtain ⟨_, _, _, _, _, _, _, _, _, _, h, _⟩ := h; rw [h]; rfl) | (obtain ⟨_, _, _, _, _, _, _, _, _, _, _, h, _⟩ := h; rw [h]; rfl) | (obtain ⟨_, _, _, _, _, _, _, _, _, _, _, _, h, _⟩ := h; rw [h]; rfl) | (obtain ⟨_, _, _, _, _, _, _, _, _, _, _, _, _, h, _⟩ := h; rw [h]; rfl) | (obtain ⟨_, _, _, h, _⟩ := i_take h; rw [h]; rfl)) (fun ss cs Kp h => r_AlG h)⟩
    have G_Lislong := (R_both 150).1
    have G_Lalong := (R_both 150).2
    have G_Lways := R_Lways 24
    have G_Lrowv8 : VFn l.prog w K mg base 6 "_law_row" ["_law_pool_here"] pRw := ok_Lrowv8 D_Lrowv8 G_Ltake (by omega) G_Lkind (by omega) (fun ss st Kp h => by first | (obtain ⟨h, _⟩ := h; rw [h]; rfl) | (obtain ⟨_, h, _⟩ := h; rw [h]; rfl) | (obtain ⟨_, _, h, _⟩ := h; rw [h]; rfl) | (obtain ⟨_, _, _, h, _⟩ := h; rw [h]; rfl) | (obtain ⟨_, _, _, _, h, _⟩ := h; rw [h]; rfl) | (obtain ⟨_, _, _, _, _, h, _⟩ := h; rw [h]; rfl) | (obtain ⟨_, _, _, _, _, _, h, _⟩ := h; rw [h]; rfl) | (obtain ⟨_, _, _, _, _, _, _, h, _⟩ := h; rw [h]; rfl) | (obtain ⟨_, _, _, _, _, _, _, _, h, _⟩ := h; rw [h]; rfl) | (obtain ⟨_, _, _, _, _, _, _, _, _, h, _⟩ := h; rw [h]; rfl) | (obtain ⟨_, _, _, _, _, _, _, _, _, _, h, _⟩ := h; rw [h]; rfl) | (obtain ⟨_, _, _, _, _, _, _, _, _, _, _, h, _⟩ := h; rw [h]; rfl) | (obtain ⟨_, _, _, _, _, _, _, _, _, _, _, _, h, _⟩ := h; rw [h]; rfl) | (obtain ⟨_, _, _, _, _, _, _, _, _, _, _, _, _, h, _⟩ := h; rw [h]; rfl) | (obtain ⟨_, _, _, h, _⟩ := i_take h; rw [h]; rfl)) (fun ss cs Kp h => r_Rw h)
    have G_Lfit : VFn l.prog w K mg base 1 "_law_fit" ["_law_moves", "_law_told_here"] pFit := ok_Lfit D_Lfit B (fun ss st Kp h => by first | (obtain ⟨h, _⟩ := h; rw [h]; rfl) | (obtain ⟨_, h, _⟩ := h; rw [h]; rfl) | (obtain ⟨_, _, h, _⟩ := h; rw [h]; rfl) | (obtain ⟨_, _, _, h, _⟩ := h; rw [h]; rfl) | (obtain ⟨_, _, _, _, h, _⟩ := h; rw [h]; rfl) | (obtain ⟨_, _, _, _, _, h, _⟩ := h; rw [h]; rfl) | (obtain ⟨_, _, _, _, _, _, h, _⟩ := h; rw [h]; rfl) | (obtain ⟨_, _, _, _, _, _, _, h, _⟩ := h; rw [h]; rfl) | (obtain ⟨_, _, _, _, _, _, _, _, h, _⟩ := h; rw [h]; rfl) | (obtain ⟨_, _, _, _, _, _, _, _, _, h, _⟩ := h; rw [h]; rfl) | (obtain ⟨_, _, _, _, _, _, _, _, _, _, h, _⟩ := h; rw [h]; rfl) | (obtain ⟨_, _, _, _, _, _, _, _, _, _, _, h, _⟩ := h; rw [h]; rfl) | (obtain ⟨_, _, _, _, _, _, _, _, _, _, _, _, h, _⟩ := h; rw [h]; rfl) | (obtain ⟨_, _, _, _, _, _, _, _, _, _, _, _, _, h, _⟩ := h; rw [h]; rfl) | (obtain ⟨_, _, _, h, _⟩ := i_take h; rw [h]; rfl)) (fun ss cs Kp h => r_Fit h)
    have R_Lspelt : ∀ N : Nat, VFn l.prog w K mg base (N + 26) "_law_spelt" ["_law_known", "_law_kind_here", "_law_program"] (pSpe ab N) := by
      intro N
      induction N with
      | zero => exact vacF D_Lspelt scLspelt (fun ss st Kp ⟨_, _, _, _, _, _, _, _, h, _⟩ => by omega)
      | succ N ih => exact ok_Lspelt D_Lspelt ih (by omega) G_Lways (by omega) G_Lfit (by omega) B (fun ss st Kp h => by first | (obtain ⟨h, _⟩ := h; rw [h]; rfl) | (obtain ⟨_, h, _⟩ := h; rw [h]; rfl) | (obtain ⟨_, _, h, _⟩ := h; rw [h]; rfl) | (obtain ⟨_, _, _, h, _⟩ := h; rw [h]; rfl) | (obtain ⟨_, _, _, _, h, _⟩ := h; rw [h]; rfl) | (obtain ⟨_, _, _, _, _, h, _⟩ := h; rw [h]; rfl) | (obtain ⟨_, _, _, _, _, _, h, _⟩ := h; rw [h]; rfl) | (obtain ⟨_, _, _, _, _, _, _, h, _⟩ := h; rw [h]; rfl) | (obtain ⟨_, _, _, _, _, _, _, _, h, _⟩ := h; rw [h]; rfl) | (obtain ⟨_, _, _, _, _, _, _, _, _, h, _⟩ := h; rw [h]; rfl) | (obtain ⟨_, _, _, _, _, _, _, _, _, _, h, _⟩ := h; rw [h]; rfl) | (obtain ⟨_, _, _, _, _, _, _, _, _, _, _, h, _⟩ := h; rw [h]; rfl) | (obtain ⟨_, _, _, _, _, _, _, _, _, _, _, _, h, _⟩ := h; rw [h]; rfl) | (obtain ⟨_, _, _, _, _, _, _, _, _, _, _, _, _, h, _⟩ := h; rw [h]; rfl) | (obtain ⟨_, _, _, h, _⟩ := i_take h; rw [h]; rfl)) (fun ss cs Kp h => r_Spe abM h)
    have G_Lspelt := R_Lspelt 100
    have XT_Ltoldv13 : ∀ C ∈ (["NoLong"] : List Str), XOf K mg C ["KindError"] ["NoLong"] := List.forall_mem_cons.mpr ⟨XO_NoLong, (fun _ h => absurd h List.not_mem_nil)⟩
    have G_Ltoldv13 : VFn l.prog w K mg base 10 "_law_told" ["_law_row_here", "_law_kind_here", "_law_program", "_law_door"] (pTld ab) := ok_Ltoldv13 D_Ltoldv13 W2 (by omega) XT_Ltoldv13 gE_KindError B (fun ss st Kp h => by first | (obtain ⟨h, _⟩ := h; rw [h]; rfl) | (obtain ⟨_, h, _⟩ := h; rw [h]; rfl) | (obtain ⟨_, _, h, _⟩ := h; rw [h]; rfl) | (obtain ⟨_, _, _, h, _⟩ := h; rw [h]; rfl) | (obtain ⟨_, _, _, _, h, _⟩ := h; rw [h]; rfl) | (obtain ⟨_, _, _, _, _, h, _⟩ := h; rw [h]; rfl) | (obtain ⟨_, _, _, _, _, _, h, _⟩ := h; rw [h]; rfl) | (obtain ⟨_, _, _, _, _, _, _, h, _⟩ := h; rw [h]; rfl) | (obtain ⟨_, _, _, _, _, _, _, _, h, _⟩ := h; rw [h]; rfl) | (obtain ⟨_, _, _, _, _, _, _, _, _, h, _⟩ := h; rw [h]; rfl) | (obtain ⟨_, _, _, _, _, _, _, _, _, _, h, _⟩ := h; rw [h]; rfl) | (obtain ⟨_, _, _, _, _, _, _, _, _, _, _, h, _⟩ := h; rw [h]; rfl) | (obtain ⟨_, _, _, _, _, _, _, _, _, _, _, _, h, _⟩ := h; rw [h]; rfl) | (obtain ⟨_, _, _, _, _, _, _, _, _, _, _, _, _, h, _⟩ := h; rw [h]; rfl) | (obtain ⟨_, _, _, h, _⟩ := i_take h; rw [h]; rfl)) (fun ss cs Kp h => r_Tld h)
    exact (okV F0 sclawk54 (fun ss st Kp h => by first | (obtain ⟨h, _⟩ := h; rw [h]; rfl) | (obtain ⟨_, h, _⟩ := h; rw [h]; rfl) | (obtain ⟨_, _, h, _⟩ := h; rw [h]; rfl) | (obtain ⟨_, _, _, h, _⟩ := h; rw [h]; rfl) | (obtain ⟨_, _, _, _, h, _⟩ := h; rw [h]; rfl) | (obtain ⟨_, _, _, _, _, h, _⟩ := h; rw [h]; rfl) | (obtain ⟨_, _, _, _, _, _, h, _⟩ := h; rw [h]; rfl) | (obtain ⟨_, _, _, _, _, _, _, h, _⟩ := h; rw [h]; rfl) | (obtain ⟨_, _, _, _, _, _, _, _, h, _⟩ := h; rw [h]; rfl) | (obtain ⟨_, _, _, _, _, _, _, _, _, h, _⟩ := h; rw [h]; rfl) | (obtain ⟨_, _, _, _, _, _, _, _, _, _, h, _⟩ := h; rw [h]; rfl) | (obtain ⟨_, _, _, _, _, _, _, _, _, _, _, h, _⟩ := h; rw [h]; rfl) | (obtain ⟨_, _, _, _, _, _, _, _, _, _, _, _, h, _⟩ := h; rw [h]; rfl) | (obtain ⟨_, _, _, _, _, _, _, _, _, _, _, _, _, h, _⟩ := h; rw [h]; rfl)) fun cdv A outer s H E hr => ⟨_, bd_lawk54 G_Lpool (by omega) G_Lrowv8 (by omega) G_Lkind (by omega) G_Ltake (by omega) G_Llonged (by omega) G_Lislong (by omega) G_Lspelt (by omega) G_Ltoldv13 (by omega) G_sizeof (by omega) B hr, fun ss cs Kp h => r_lawk54 h⟩).imp law_sp⟩
  · exact fun p hp => by
      simp only [List.mem_cons, List.not_mem_nil, or_false] at hp
      rcases hp with rfl | rfl
      · exact T1.2
      · exact T10.2
  · exact fun p hp => by
      simp only [List.mem_cons, List.not_mem_nil, or_false] at hp
      rcases hp with rfl | rfl
      · exact n1
      · exact n10
  · exact fun p hp => by
      simp only [List.mem_cons, List.not_mem_nil, or_false] at hp
      rcases hp with rfl | rfl
      · exact T1.1
      · exact T10.1
end Kf
open PySem PySem.W PyProof.Rows
set_option maxRecDepth 100000 in
set_option maxHeartbeats 0 in
theorem PySem.Challenge.cw_kindfill_k54_spellings_holds : PySem.Challenge.rw_kindfill_k54_spellings.Holds := by
  w_on; o_law; k_head; (case hw => w_witness2)
  k_fill
  refine Vl.walk_tabs (l := PySem.Challenge.rw_kindfill_k54_spellings) (n := 63) (k := 152) (CX := fun _ => L2.CX0) (x := "_law_script") rfl (by decide) rfl ⟨rfl, by decide, by decide⟩ (fun w h Y => PySem.W.kIn_of Y) ?F (fun _ _ _ _ _ z => z)
  case F =>
    intro w mg fa h KX G hmg T
    refine' Kf.all_mk KX G hmg T ?a0 ?l0 ?c0 ?k0 ?a1 ?l1 ?c1 ?k1 ?r1 ?d1 ?j1 ?n1 ?a2 ?l2 ?c2 ?k2 ?a3 ?l3 ?c3 ?k3 ?a4 ?l4 ?c4 ?k4 ?a5 ?l5 ?c5 ?k5 ?a6 ?l6 ?c6 ?k6 ?a7 ?l7 ?c7 ?k7 ?a8 ?l8 ?c8 ?k8 ?a9 ?l9 ?c9 ?k9 ?a10 ?l10 ?c10 ?k10 ?r10 ?d10 ?j10 ?n10 ?a11 ?l11 ?c11 ?k11 ?a12 ?l12 ?c12 ?k12 ?a13 ?l13 ?c13 ?k13 ?a14 ?l14 ?c14 ?k14 ?a15 ?l15 ?c15 ?k15 ?a16 ?l16 ?c16 ?k16 ?a17 ?l17 ?c17 ?k17 ?a18 ?l18 ?c18 ?k18 ?a19 ?l19 ?c19 ?k19 ?a20 ?l20 ?c20 ?k20 ?a21 ?l21 ?c21 ?k21 ?a22 ?l22 ?c22 ?k22 ?a23 ?l23 ?c23 ?k23 ?a24 ?l24 ?c24 ?k24 ?a25 ?l25 ?c25 ?k25 ?zg_is_numbered ?zg_is_tree ?zg_which_live ?zg_row_lives ?zg_bars_by ?zg_room_above ?zg_sum_with ?zg_is_place ?zg_is_formed ?zg_stand_once ?zg_drop_name ?zg_read_row ?zg_is_number ?z0 ?z1 ?z2 ?z3 ?z4 ?z5 ?z6 ?z7 ?z8 ?z9 ?z10 ?z11 ?z12 ?z13 ?z14 ?z15 ?z16 ?z17 ?z18 ?z19 ?z20 ?y0 ?y1 ?y2 ?y3 ?aDLENGTHS_kinds ?lDLENGTHS_kinds ?kDLENGTHS_kinds ?sDLENGTHS_kinds ?aDLENGTHS_programs ?lDLENGTHS_programs ?kDLENGTHS_programs ?sDLENGTHS_programs ?aTMOVES ?lTMOVES ?eaNoLong ?eaKindError ?ebKindError ?eiKindError ?etKindError ?qn ?qt ?x1NoLong ?x2NoLong ?x3NoLong ?x4NoLong ?x5NoLong ?x6NoLong ?x7NoLong ?x8NoLong ?x9NoLong ?sNoLong_KindError ?kNoLong_NoLong
    (case a0 => k_is)
    (case l0 => k_is)
    (case c0 => k_is)
    (case k0 => k_is)
    (case a1 => k_is)
    (case l1 => k_is)
    (case c1 => k_is)
    (case k1 => k_is)
    (case r1 => first | decide +kernel | kernel_rfl)
    (case d1 => k_is)
    (case j1 => exact rfl)
    (case n1 => first | exact rfl | kernel_rfl | decide +kernel)
    (case a2 => k_is)
    (case l2 => k_is)
    (case c2 => k_is)
    (case k2 => k_is)
    (case a3 => k_is)
    (case l3 => k_is)
    (case c3 => k_is)
    (case k3 => k_is)
    (case a4 => k_is)
    (case l4 => k_is)
    (case c4 => k_is)
    (case k4 => k_is)
    (case a5 => k_is)
    (case l5 => k_is)
    (case c5 => k_is)
    (case k5 => k_is)
    (case a6 => k_is)
    (case l6 => k_is)
    (case c6 => k_is)
    (case k6 => k_is)
    (case a7 => k_is)
    (case l7 => k_is)
    (case c7 => k_is)
    (case k7 => k_is)
    (case a8 => k_is)
    (case l8 => k_is)
    (case c8 => k_is)
    (case k8 => k_is)
    (case a9 => k_is)
    (case l9 => k_is)
    (case c9 => k_is)
    (case k9 => k_is)
    (case a10 => k_is)
    (case l10 => k_is)
    (case c10 => k_is)
    (case k10 => k_is)
    (case r10 => first | decide +kernel | kernel_rfl)
    (case d10 => k_is)
    (case j10 => exact rfl)
    (case n10 => first | exact rfl | kernel_rfl | decide +kernel)
    (case a11 => k_is)
    (case l11 => k_is)
    (case c11 => k_is)
    (case k11 => k_is)
    (case a12 => k_is)
    (case l12 => k_is)
    (case c12 => k_is)
    (case k12 => k_is)
    (case a13 => k_is)
    (case l13 => k_is)
    (case c13 => k_is)
    (case k13 => k_is)
    (case a14 => k_is)
    (case l14 => k_is)
    (case c14 => k_is)
    (case k14 => k_is)
    (case a15 => k_is)
    (case l15 => k_is)
    (case c15 => k_is)
    (case k15 => k_is)
    (case a16 => k_is)
    (case l16 => k_is)
    (case c16 => k_is)
    (case k16 => k_is)
    (case a17 => k_is)
    (case l17 => k_is)
    (case c17 => k_is)
    (case k17 => k_is)
    (case a18 => k_is)
    (case l18 => k_is)
    (case c18 => k_is)
    (case k18 => k_is)
    (case a19 => k_is)
    (case l19 => k_is)
    (case c19 => k_is)
    (case k19 => k_is)
    (case a20 => k_is)
    (case l20 => k_is)
    (case c20 => k_is)
    (case k20 => k_is)
    (case a21 => k_is)
    (case l21 => k_is)
    (case c21 => k_is)
    (case k21 => k_is)
    (case a22 => k_is)
    (case l22 => k_is)
    (case c22 => k_is)
    (case k22 => k_is)
    (case a23 => k_is)
    (case l23 => k_is)
    (case c23 => k_is)
    (case k23 => k_is)
    (case a24 => k_is)
    (case l24 => k_is)
    (case c24 => k_is)
    (case k24 => k_is)
    (case a25 => k_is)
    (case l25 => k_is)
    (case c25 => k_is)
    (case k25 => k_is)
    (case zg_is_numbered => k_is)
    (case zg_is_tree => k_is)
    (case zg_which_live => k_is)
    (case zg_row_lives => k_is)
    (case zg_bars_by => k_is)
    (case zg_room_above => k_is)
    (case zg_sum_with => k_is)
    (case zg_is_place => k_is)
    (case zg_is_formed => k_is)
    (case zg_stand_once => k_is)
    (case zg_drop_name => k_is)
    (case zg_read_row => k_is)
    (case zg_is_number => k_is)
    (case z0 => k_is)
    (case z1 => k_is)
    (case z2 => k_is)
    (case z3 => k_is)
    (case z4 => k_is)
    (case z5 => k_is)
    (case z6 => k_is)
    (case z7 => k_is)
    (case z8 => k_is)
    (case z9 => k_is)
    (case z10 => k_is)
    (case z11 => k_is)
    (case z12 => k_is)
    (case z13 => k_is)
    (case z14 => k_is)
    (case z15 => k_is)
    (case z16 => k_is)
    (case z17 => k_is)
    (case z18 => k_is)
    (case z19 => k_is)
    (case z20 => k_is)
    (case y0 => k_is)
    (case y1 => k_is)
    (case y2 => k_is)
    (case y3 => k_is)
    (case aDLENGTHS_kinds => first | k_is | k_exc | decide +kernel | rfl)
    (case lDLENGTHS_kinds => first | k_is | k_exc | decide +kernel | rfl)
    (case kDLENGTHS_kinds => exact ⟨⟨_, _, rfl, rfl⟩, ⟨_, _, rfl, rfl⟩, ⟨_, _, rfl, rfl⟩, ⟨_, _, rfl, rfl⟩, trivial⟩)
    (case sDLENGTHS_kinds => first | rfl | decide)
    (case aDLENGTHS_programs => first | k_is | k_exc | decide +kernel | rfl)
    (case lDLENGTHS_programs => first | k_is | k_exc | decide +kernel | rfl)
    (case kDLENGTHS_programs => exact ⟨⟨_, _, rfl, rfl⟩, ⟨_, _, rfl, rfl⟩, ⟨_, _, rfl, rfl⟩, ⟨_, _, rfl, rfl⟩, ⟨_, _, rfl, rfl⟩, ⟨_, _, rfl, rfl⟩, ⟨_, _, rfl, rfl⟩, trivial⟩)
    (case sDLENGTHS_programs => first | rfl | decide)
    (case aTMOVES => first | k_is | k_exc | decide +kernel | rfl)
    (case lTMOVES => first | k_is | k_exc | decide +kernel | rfl)
    (case eaNoLong => first | k_is | k_exc | decide +kernel | rfl)
    (case eaKindError => first | k_is | k_exc | decide +kernel | rfl)
    (case ebKindError => first | k_is | k_exc | decide +kernel | rfl)
    (case eiKindError => first | k_is | k_exc | decide +kernel | rfl)
    (case etKindError => first | k_is | k_exc | decide +kernel | rfl)
    (case qn => first | k_is | k_exc | decide +kernel | rfl)
    (case qt => first | k_is | k_exc | decide +kernel | rfl)
    (case x1NoLong => first | k_is | k_exc | decide +kernel | rfl)
    (case x2NoLong => first | k_is | k_exc | decide +kernel | rfl)
    (case x3NoLong => first | k_is | k_exc | decide +kernel | rfl)
    (case x4NoLong => first | k_is | k_exc | decide +kernel | rfl)
    (case x5NoLong => first | k_is | k_exc | decide +kernel | rfl)
    (case x6NoLong => first | k_is | k_exc | decide +kernel | rfl)
    (case x7NoLong => first | k_is | k_exc | decide +kernel | rfl)
    (case x8NoLong => first | k_is | k_exc | decide +kernel | rfl)
    (case x9NoLong => first | k_is | k_exc | decide +kernel | rfl)
    (case sNoLong_KindError => first | k_is | k_exc | decide +kernel | rfl)
    (case kNoLong_NoLong => first | k_is | k_exc | decide +kernel | rfl)
